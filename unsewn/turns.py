"""Heaps turned: backwards, with their words renamed, with their leaves dealt anew."""

from unsewn.checks import need
from unsewn.kinds import is_order


def backwards(heap):
    """The heap in which each leaf's two words have changed places."""
    size, leaves = heap
    return size, tuple([(catchword, first) for first, catchword in leaves])


def renamed(heap, order):
    """The heap in which each word w has become order[w]."""
    size, leaves = heap
    need(is_order(size, order), "order")
    return size, tuple([(order[first], order[catchword]) for first, catchword in leaves])


def dealt(heap, order):
    """The heap whose leaf i is the leaf order[i]."""
    size, leaves = heap
    need(is_order(len(leaves), order), "order")
    return size, tuple([leaves[leaf] for leaf in order])
