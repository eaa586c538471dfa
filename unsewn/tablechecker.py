"""The checker of tables."""

from unsewn.checks import need
from unsewn.columnchecker import column_fault, is_column
from unsewn.errors import InvalidPaper
from unsewn.kinds import is_tuple_of, is_word


def lets_table(book, ground, thing):
    """How many words the book of the table has."""
    need(is_word(book, ground), "ground")
    size = book[0]
    if not is_tuple_of(lambda row: is_column(book, row), thing) or len(thing) != size:
        raise InvalidPaper("kind", -1)
    for word in range(size):
        fault = column_fault(book, ground, word, tuple([row[word] for row in thing]))
        if fault is not None:
            raise InvalidPaper(fault[0], (fault[1], word))
    return size
