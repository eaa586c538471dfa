"""The checker of share papers."""

from unsewn.checks import need
from unsewn.columnchecker import column_fault, is_column
from unsewn.errors import InvalidPaper
from unsewn.kinds import is_three, is_tuple_of, is_word
from unsewn.quotients import minus, times, total


def is_paper(book, thing):
    """Whether thing is a pair of a word and three tuples of quotients, one for each word."""
    if not isinstance(thing, tuple) or len(thing) != 2 or not is_word(book, thing[0]):
        return False
    return is_tuple_of(lambda column: is_column(book, column), thing[1]) and len(thing[1]) == 3


def lets_share(book, three, thing):
    """The share of the order, reckoned from the columns of the share paper alone."""
    need(is_three(book, three), "three")
    if not is_paper(book, thing):
        raise InvalidPaper("kind", -1)
    ground, columns = thing
    told = [book[1][leaf] for leaf in three]
    for at in range(3):
        fault = column_fault(book, ground, told[at][0], columns[at])
        if fault is not None:
            raise InvalidPaper(fault[0], at if fault[0] == "ground" else (at, fault[1]))
    return share_by(told, columns)


def share_by(told, columns):
    """The share of the order of three leaves, told by their words, from the columns of their first words."""
    parts = [(1, 1)]
    for one, other in ((0, 1), (1, 2), (2, 0)):
        parts.append(minus(columns[other][told[one][1]], columns[one][told[other][1]]))
    return times(total(tuple(parts)), (1, 2))
