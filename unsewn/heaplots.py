"""Lots of words: their gates, the leaves within them and across, and which lots hang together."""

from unsewn.checks import need
from unsewn.kinds import is_lot
from unsewn.reach import reached_from


def gates_of(heap, lot):
    """How many leaves leave the lot."""
    return len(leaving(heap, lot))


def within(heap, lot):
    """The set of the leaves within the lot."""
    return crossing(heap, lot, True, True)


def leaving(heap, lot):
    """The set of the leaves that leave the lot."""
    return crossing(heap, lot, True, False)


def entering(heap, lot):
    """The set of the leaves that enter the lot."""
    return crossing(heap, lot, False, True)


def crossing(heap, lot, from_inside, to_inside):
    """The set of the leaves of which the first word is in the lot as told, and the catchword as told."""
    need(is_lot(heap, lot), "lot")
    leaves = heap[1]
    return tuple([
        at for at in range(len(leaves))
        if (leaves[at][0] in lot) == from_inside and (leaves[at][1] in lot) == to_inside
    ])


def hangs_together(heap, lot):
    """Whether the lot hangs together."""
    need(is_lot(heap, lot), "lot")
    if lot == ():
        return False
    inside = [heap[1][at] for at in within(heap, lot)]
    return reached_from(inside, lot[0]) == lot


def pieces_of(heap):
    """The set of the pieces."""
    reached = [reached_from(heap[1], word) for word in range(heap[0])]
    return tuple([reached[word] for word in range(heap[0]) if reached[word][0] == word])
