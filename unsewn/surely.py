"""Which leaves come surely in an order, and which pairs are open."""

from unsewn.checks import need
from unsewn.kinds import are_different, is_leaf, is_three
from unsewn.orders import order_at, order_count
from unsewn.shares import before_rows, order_share


def is_sure(book, three):
    """Whether a, b, c come surely in this order."""
    need(is_three(book, three), "three")
    return order_share(book, three) == (1, 1)


def sure_ring(book, leaves):
    """Whether the leaves come surely in this order."""
    need(are_different(len(book[1]), leaves) and len(leaves) >= 2, "leaves")
    before = before_rows(book, leaves[0])
    return all([before[leaves[at]][leaves[at + 1]] == (1, 1) for at in range(1, len(leaves) - 1)])


def sure_before(book, cover, one, other):
    """Whether one is surely before other."""
    need(is_leaf(book, cover), "cover")
    need(is_leaf(book, one), "one")
    need(is_leaf(book, other), "other")
    return before_rows(book, cover)[one][other] == (1, 1)


def sure_pairs(book, cover):
    """The set of all pairs (e, f) of leaves other than the cover, e surely before f."""
    need(is_leaf(book, cover), "cover")
    before = before_rows(book, cover)
    others = [leaf for leaf in range(len(before)) if leaf != cover]
    return tuple([(e, f) for e in others for f in others if before[e][f] == (1, 1)])


def open_pairs(book, cover):
    """The set of all pairs (e, f) of leaves other than the cover, e below f, neither surely before the other."""
    need(is_leaf(book, cover), "cover")
    before = before_rows(book, cover)
    others = [leaf for leaf in range(len(before)) if leaf != cover]
    return tuple([(e, f) for e in others for f in others if e < f and before[e][f] not in ((0, 1), (1, 1))])


def open_readings(book, cover, one, other):
    """Any pair of readings from the cover, one before other in the first and not in the second; else None."""
    need(is_leaf(book, cover), "cover")
    need(is_leaf(book, one), "one")
    need(is_leaf(book, other), "other")
    if one == other or cover in (one, other):
        return None
    there = (cover, one, other)
    back = (cover, other, one)
    if order_count(book, there) == 0 or order_count(book, back) == 0:
        return None
    return order_at(book, there, 0), order_at(book, back, 0)
