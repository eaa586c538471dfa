"""The readings in which three leaves come in a told order."""

from unsewn.checks import need
from unsewn.kinds import is_below, is_three
from unsewn.prefixes import count_ahead, ordered_behind_row, reading_behind
from unsewn.readings import is_reading, readings_of, started_at
from unsewn.rings import comes_round


def in_order(book, reading, three):
    """Whether a, b, c come in this order in the reading."""
    need(is_reading(book, reading), "reading")
    need(is_three(book, three), "three")
    return comes_round(reading, three)


def order_count(book, three):
    """How many readings from a have the order a, b, c."""
    need(is_three(book, three), "three")
    return ordered_behind_row(book, (three[0],), three)


def order_readings(book, three):
    """A generator of the readings from a that have the order a, b, c, ascending."""
    need(is_three(book, three), "three")
    first = three[0]
    for reading in readings_of(book, first):
        if comes_round(reading, three):
            yield reading


def order_at(book, three, index):
    """The reading that order_readings yields at the index."""
    need(is_three(book, three), "three")
    need(is_below(order_count(book, three), index), "index")
    return reading_behind(book, three[0], index, lambda row: ordered_behind_row(book, row, three))


def order_number(book, three, reading):
    """The index with which order_at returns the same ring."""
    need(is_three(book, three), "three")
    need(is_reading(book, reading) and comes_round(reading, three), "reading")
    told = started_at(book, reading, three[0])
    return count_ahead(book, told, lambda row: ordered_behind_row(book, row, three))
