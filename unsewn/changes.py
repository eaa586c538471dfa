"""The table of a book that is changed."""

from unsewn.checks import need
from unsewn.findkinds import is_find
from unsewn.glueing import count_with, glued
from unsewn.heapcounts import fan_of
from unsewn.kinds import is_leaf, is_word
from unsewn.makings import parted
from unsewn.tables import table_of


def table_parted(book, ground, leaf):
    """The table, with the same ground, of the book with the leaf parted."""
    need(is_word(book, ground), "ground")
    need(is_leaf(book, leaf), "leaf")
    return table_of(parted(book, leaf), ground)


def is_find_within(book, thing):
    """Whether thing is a find of the book that neither tears it nor leaves a word out."""
    if not is_find(book, thing) or fan_of(book, book[1][thing[1]][0]) == 1:
        return False
    return count_with(book, (thing,)) > 0


def table_glued(book, ground, find):
    """The table, with the same ground, of the book glued by the find."""
    need(is_word(book, ground), "ground")
    need(is_find_within(book, find), "find")
    return table_of(glued(book, find)[0], ground)
