"""Texts by their numbers."""

from unsewn.checks import need
from unsewn.growing import grown_at, grown_number
from unsewn.kinds import is_below, is_leaf
from unsewn.prefixes import count_behind_row
from unsewn.texts import is_text, like_orders, next_unlike, pairs_but, steps_of, text_by, text_count


def texts_behind_row(book, row):
    """How many texts the readings have that begin with the row."""
    return count_behind_row(book, row) // like_orders(pairs_but(book, row))


def text_at(book, cover, index):
    """The text at this index of texts_of."""
    need(is_leaf(book, cover), "cover")
    need(is_below(text_count(book, cover), index), "index")
    reading = grown_at(
        (cover,), len(book[1]),
        lambda row: next_unlike(book, row),
        lambda row: texts_behind_row(book, row),
        index,
    )
    return text_by(book, reading)


def reading_by_text(book, cover, text):
    """The reading from the cover with the text in which all like leaves stand in their order."""
    row = (cover,)
    for step in steps_of(text):
        row += (min([leaf for leaf in range(len(book[1])) if book[1][leaf] == step and leaf not in row]),)
    return row


def number_of_text(book, cover, text):
    """The index of the text in texts_of."""
    need(is_leaf(book, cover), "cover")
    need(is_text(book, cover, text), "text")
    return grown_number(
        reading_by_text(book, cover, text), 1,
        lambda row: next_unlike(book, row),
        lambda row: texts_behind_row(book, row),
    )
