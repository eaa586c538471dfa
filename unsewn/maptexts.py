"""The lines of a chart."""

from unsewn.checks import need
from unsewn.mapchecker import is_pair_of_rows


def is_chart(thing):
    """Whether thing is a pair of two tuples, with as many elements, at least one, of tuples of numbers, none empty."""
    if not is_pair_of_rows(thing):
        return False
    lots, rounds = thing
    return len(lots) == len(rounds) and len(lots) > 0 and () not in lots and () not in rounds


def map_lines(chart):
    """A tuple of strings, one for each lot: its numbers, a colon, and the numbers of its round."""
    need(is_chart(chart), "chart")
    return tuple([map_line(lot, leaves) for lot, leaves in zip(chart[0], chart[1])])


def map_line(lot, leaves):
    """The line of a lot with its round."""
    return " ".join([str(word) for word in lot]) + ": " + " ".join([str(leaf) for leaf in leaves])
