"""The checker of a column of the table, and what is wrong with a column."""

from unsewn.checks import need
from unsewn.errors import InvalidPaper
from unsewn.kinds import is_quotient, is_tuple_of, is_word
from unsewn.quotients import minus, total


def is_column(book, thing):
    """Whether thing is a tuple of as many quotients as there are words."""
    return is_tuple_of(is_quotient, thing) and len(thing) == book[0]


def fall_at(book, column, word):
    """The fan of the word times its entry, less the entries of the catchwords of the leaves that begin with it."""
    return total(tuple([minus(column[word], column[catchword]) for first, catchword in book[1] if first == word]))


def due_at(ground, word, place):
    """What fall_at is at the place in the table's column of the word."""
    if word == ground or place not in (word, ground):
        return 0, 1
    return (1, 1) if place == word else (-1, 1)


def column_fault(book, ground, word, column):
    """None if the column is the table's column of the word; else ("ground", ground), or ("sum", x) by the least x."""
    if column[ground] != (0, 1):
        return "ground", ground
    for place in range(book[0]):
        if fall_at(book, column, place) != due_at(ground, word, place):
            return "sum", place
    return None


def lets_column(book, ground, word, thing):
    """The entry of the word in its own column."""
    need(is_word(book, ground), "ground")
    need(is_word(book, word), "word")
    if not is_column(book, thing):
        raise InvalidPaper("kind", -1)
    fault = column_fault(book, ground, word, thing)
    if fault is not None:
        raise InvalidPaper(fault[0], fault[1])
    return thing[word]
