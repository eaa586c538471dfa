"""The readings in which three leaves come in a told order."""

from unsewn.checks import need
from unsewn.kinds import is_below, is_three
from unsewn.prefixes import ordered_behind_row
from unsewn.readings import is_reading, next_leaves, readings_of, started_at
from unsewn.rings import comes_round


def in_order(book, reading, three):
    """Whether a, b, c come in this order in the reading."""
    need(is_reading(book, reading), "reading")
    need(is_three(book, three), "three")
    return comes_round(reading, three)


def order_count(book, three):
    """How many readings from a have the order a, b, c."""
    need(is_three(book, three), "three")
    return ordered_behind_row(book, (three[0],), three)


def order_readings(book, three):
    """A generator of the readings from a that have the order a, b, c, ascending."""
    need(is_three(book, three), "three")
    first = three[0]
    for reading in readings_of(book, first):
        if comes_round(reading, three):
            yield reading


def order_at(book, three, index):
    """The reading that order_readings yields at the index."""
    need(is_three(book, three), "three")
    need(is_below(order_count(book, three), index), "index")
    row = (three[0],)
    ahead = index
    while len(row) < len(book[1]):
        row, ahead = one_leaf_on(book, three, row, ahead)
    return row


def one_leaf_on(book, three, row, ahead):
    """The row with the next leaf of the reading that has so many ahead of it; and how many are left ahead then."""
    for leaf in next_leaves(book, row):
        many = ordered_behind_row(book, row + (leaf,), three)
        if ahead < many:
            break
        ahead -= many
    return row + (leaf,), ahead


def order_number(book, three, reading):
    """The index with which order_at returns the same ring."""
    need(is_three(book, three), "three")
    need(is_reading(book, reading) and comes_round(reading, three), "reading")
    told = started_at(book, reading, three[0])
    number = 0
    for at in range(1, len(told)):
        row = told[:at]
        less = [leaf for leaf in next_leaves(book, row) if leaf < told[at]]
        number += sum([ordered_behind_row(book, row + (leaf,), three) for leaf in less])
    return number
