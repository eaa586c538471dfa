"""The readings of a book."""

from unsewn.checks import need
from unsewn.growing import grown_rows
from unsewn.kinds import is_leaf, is_order
from unsewn.reach import reached_from


def is_reading(book, thing):
    """Whether thing is a reading of the book, from whichever leaf."""
    leaves = book[1]
    if not is_order(len(leaves), thing):
        return False
    return all([leaves[thing[at - 1]][1] == leaves[thing[at]][0] for at in range(len(thing))])


def started_at(book, reading, first):
    """The reading from first that is the same ring."""
    need(is_reading(book, reading), "reading")
    need(is_leaf(book, first), "first")
    at = reading.index(first)
    return reading[at:] + reading[:at]


def readings_of(book, first):
    """A generator of all readings from first, ascending."""
    need(is_leaf(book, first), "first")
    start = (first,)
    many = len(book[1])
    yield from grown_rows(start, many, lambda row: next_leaves(book, row))


def next_leaves(book, row):
    """The leaves, ascending, that stand next behind the row in at least one reading that begins with the row."""
    leaves = book[1]
    rest = [leaf for leaf in range(len(leaves)) if leaf not in row]
    word = leaves[row[-1]][1]
    there = [leaf for leaf in rest if leaves[leaf][0] == word]
    if len(there) == 1:
        return there
    return [leaf for leaf in there if can_end(leaves, rest, leaf)]


def can_end(leaves, rest, leaf):
    """Whether the rest can be laid from the leaf on, given that as many of it leave each word as it takes.

    It can exactly if all other words of the rest hang together with the leaf's catchword without the leaf.
    """
    others = [leaves[at] for at in rest if at != leaf]
    reached = reached_from(others, leaves[leaf][1])
    return all([first in reached for first, _ in others])
