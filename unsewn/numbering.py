"""Readings by their numbers."""

from unsewn.checks import need
from unsewn.counts import reading_count
from unsewn.kinds import is_below, is_leaf
from unsewn.prefixes import count_ahead, count_behind_row, reading_behind
from unsewn.readings import is_reading


def reading_at(book, first, index):
    """The reading that readings_of yields at the index."""
    need(is_leaf(book, first), "first")
    need(is_below(reading_count(book), index), "index")
    return reading_behind(book, first, index, lambda row: count_behind_row(book, row))


def number_of(book, reading):
    """The index of the reading among the readings from its own first leaf."""
    need(is_reading(book, reading), "reading")
    return count_ahead(book, reading, lambda row: count_behind_row(book, row))
