"""In how many ways a heap is laid in volumes with told first and last words."""

from unsewn.checks import need
from unsewn.counts import reading_count
from unsewn.glueing import packed
from unsewn.kinds import are_pairs_below, is_book
from unsewn.orders import order_count


def are_ends(heap, thing):
    """Whether thing is a tuple of one to three pairs of words."""
    return are_pairs_below(heap[0], thing) and 1 <= len(thing) <= 3


def volume_count(heap, ends):
    """In how many ways all leaves of the heap are laid in volumes, one for each pair (first, last) of ends."""
    need(are_ends(heap, ends), "ends")
    leaves = heap[1]
    covers = tuple([(ends[at][1], ends[(at + 1) % len(ends)][0]) for at in range(len(ends))])
    made = packed(leaves + covers)
    if not is_book(made):
        return 0
    # One cover or two stand in the ring in one order alone.
    if len(covers) < 3:
        return reading_count(made)
    return order_count(made, (len(leaves), len(leaves) + 1, len(leaves) + 2))
