"""Ways of three: by them an order of three leaves is seen not to be sure."""

from unsewn.checks import need
from unsewn.errors import InvalidPaper
from unsewn.kinds import is_three
from unsewn.orders import order_at, order_count
from unsewn.wayschecker import lets_ways


def are_ways(book, three, thing):
    """Whether thing is ways of three."""
    try:
        lets_ways(book, three, thing)
    except InvalidPaper:
        return False
    return True


def ways_of(book, three):
    """Any ways of three; None if there are none."""
    need(is_three(book, three), "three")
    a, b, c = three
    if order_count(book, (a, c, b)) == 0:
        return None
    # Parted at the three leaves, a reading in the other order is three ways.
    reading = order_at(book, (a, c, b), 0)
    return reading[1:reading.index(c)], reading[reading.index(c) + 1:reading.index(b)], reading[reading.index(b) + 1:]


def spliced(book, three, ways):
    """Any reading from a with the order a, c, b in which the leaves of each way stand between its two leaves."""
    need(is_three(book, three), "three")
    need(are_ways(book, three, ways), "ways")
    a, b, c = three
    ring = (a,) + ways[0] + (c,) + ways[1] + (b,) + ways[2]
    # The book hangs together, so as long as leaves are left, one of them begins where the ring comes by.
    while len(ring) < len(book[1]):
        at = first_left(book, ring)
        ring = ring[:at + 1] + round_trip(book, ring, book[1][ring[at]][1]) + ring[at + 1:]
    return ring


def leaf_left(book, row, word):
    """The least leaf that begins with the word and is not in the row; None if there is none."""
    left = [leaf for leaf in range(len(book[1])) if book[1][leaf][0] == word and leaf not in row]
    return left[0] if left else None


def first_left(book, ring):
    """The least index in the ring behind which a leaf that is not in it can stand."""
    at = 0
    while leaf_left(book, ring, book[1][ring[at]][1]) is None:
        at += 1
    return at


def round_trip(book, ring, word):
    """A tuple of leaves that are not in the ring, one behind the other, from the word until there is none to go on.

    As many leaves that are not in the ring end in each word as begin with it, so it leads back to the word.
    """
    trip = ()
    leaf = leaf_left(book, ring, word)
    while leaf is not None:
        trip += (leaf,)
        leaf = leaf_left(book, ring + trip, book[1][leaf][1])
    return trip
