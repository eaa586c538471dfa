"""Heaps made of heaps: with a loop hung on, a leaf parted, another heap joined, a lot put together."""

from unsewn.checks import need
from unsewn.heaplots import within
from unsewn.kinds import is_heap, is_leaf, is_lot, is_word


def hung(heap, word):
    """The heap with a loop at the word behind all leaves."""
    need(is_word(heap, word), "word")
    size, leaves = heap
    return size, leaves + ((word, word),)


def parted(heap, leaf):
    """The heap in which the leaf ends in a new word, and a leaf from that word to its old catchword stands behind."""
    need(is_leaf(heap, leaf), "leaf")
    size, leaves = heap
    first, catchword = leaves[leaf]
    return size + 1, leaves[:leaf] + ((first, size),) + leaves[leaf + 1:] + ((size, catchword),)


def joined(heap, other):
    """Both heaps in one, their words 0 being one word, and the leaves of other standing behind."""
    need(is_heap(other), "other")
    size, leaves = heap
    moved = [0] + list(range(size, size + other[0] - 1))
    return size + other[0] - 1, leaves + tuple([(moved[first], moved[catchword]) for first, catchword in other[1]])


def is_part(heap, thing):
    """Whether thing is a lot, and neither () nor all words."""
    return is_lot(heap, thing) and 0 < len(thing) < heap[0]


def home_of(heap, lot):
    """By old word, the new word that it becomes, or that its lot becomes."""
    need(is_part(heap, lot), "lot")
    leasts = [lot[0] if word in lot else word for word in range(heap[0])]
    ranked = sorted(set(leasts))
    return tuple([ranked.index(least) for least in leasts])


def put_together(heap, lot):
    """The heap in which the lot is one word, without the leaves within the lot."""
    homes = home_of(heap, lot)
    left_out = within(heap, lot)
    leaves = [heap[1][leaf] for leaf in range(len(heap[1])) if leaf not in left_out]
    return heap[0] - len(lot) + 1, tuple([(homes[first], homes[catchword]) for first, catchword in leaves])
