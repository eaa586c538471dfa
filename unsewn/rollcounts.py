"""How many pairings lay the leaves in two or three rolls, told leaves apart."""

from unsewn.checks import need
from unsewn.counts import reading_count
from unsewn.kinds import is_book, is_leaf, is_three
from unsewn.orders import order_count


def swapped(book, givers, takers):
    """The heap in which each of the givers ends in the catchword of the taker beside it."""
    size, leaves = book
    made = list(leaves)
    for giver, taker in zip(givers, takers):
        made[giver] = (leaves[giver][0], leaves[taker][1])
    return size, tuple(made)


def two_rolls(book, one, other):
    """How many pairings have just two rolls, one and other in different ones."""
    need(is_leaf(book, one), "one")
    need(is_leaf(book, other) and other != one, "other")
    # Two rolls become one where the two leaves change their followers, and one roll with both becomes two.
    made = swapped(book, (one, other), (other, one))
    return reading_count(made) if is_book(made) else 0


def three_rolls(book, three):
    """How many pairings have just three rolls, a, b, c in three different ones."""
    need(is_three(book, three), "three")
    a, b, c = three
    # Where each roll goes on, behind its told leaf, with those of the next one, three rolls become one by a, b, c.
    made = swapped(book, (a, b, c), (b, c, a))
    return order_count(made, three) if is_book(made) else 0


def with_apart(book, three):
    """How many pairings have just two rolls, a and b in one, c in the other."""
    need(is_three(book, three), "three")
    a, b, c = three
    # The rolls of a and c become one where these change their followers; b stands in it behind c if it was with a.
    made = swapped(book, (a, c), (c, a))
    return order_count(made, (a, c, b)) if is_book(made) else 0
