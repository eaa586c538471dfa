"""In which share of the readings the leaves of one word come in an order, from a cover."""

from math import factorial

from unsewn.checks import need
from unsewn.heapcounts import from_word
from unsewn.kinds import are_below, is_below, is_leaf
from unsewn.quotients import minus, times
from unsewn.tables import column_of


def last_share(book, cover, leaf):
    """The share in which the leaf is the last of those that begin with its first word."""
    need(is_leaf(book, cover), "cover")
    need(is_leaf(book, leaf), "leaf")
    return turn_by_place(book, cover, leaf, len(from_word(book, book[1][leaf][0])) - 1)


def turn_share(book, cover, leaf, index):
    """The share in which the leaf is the index-th of those that begin with its first word."""
    need(is_leaf(book, cover), "cover")
    need(is_leaf(book, leaf), "leaf")
    need(is_below(len(from_word(book, book[1][leaf][0])), index), "index")
    return turn_by_place(book, cover, leaf, index)


def queue_share(book, cover, leaves):
    """The share in which all leaves that begin with one word come in this order."""
    need(is_leaf(book, cover), "cover")
    need(is_queue(book, leaves), "leaves")
    # With one last leaf, or with the cover first, the leaves of one word come in all orders equally often.
    at = 0 if cover in leaves else len(leaves) - 1
    return times(turn_by_place(book, cover, leaves[at], at), (1, factorial(len(leaves) - 1)))


def is_queue(book, thing):
    """Whether thing is a tuple of just the leaves that begin with one word, each once."""
    if not are_below(len(book[1]), thing) or thing == ():
        return False
    return tuple(sorted(thing)) == from_word(book, book[1][thing[0]][0])


def turn_by_place(book, cover, leaf, index):
    """The share in which the leaf is the index-th of its word."""
    last = book[1][cover][0]
    word, catchword = book[1][leaf]
    others = len(from_word(book, word)) - 1
    if word == last:
        # The cover comes first of all, and the others behind it in all orders equally often.
        if leaf == cover or index == 0:
            return (1, 1) if leaf == cover and index == 0 else (0, 1)
        return 1, others
    column = column_of(book, last, word)
    at_the_end = minus(column[word], column[catchword])
    return at_the_end if index == others else times(minus((1, 1), at_the_end), (1, others))
