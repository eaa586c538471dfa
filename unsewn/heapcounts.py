"""How many leaves begin with a word and end in it, and which; and which leaves are like."""

from unsewn.checks import need
from unsewn.kinds import is_leaf, is_word


def fan_of(heap, word):
    """How many leaves begin with the word."""
    return len(from_word(heap, word))


def ends_of(heap, word):
    """How many leaves end in the word."""
    return len(to_word(heap, word))


def surplus_of(heap, word):
    """How many leaves more end in the word than begin with it."""
    return ends_of(heap, word) - fan_of(heap, word)


def loops_of(heap):
    """The set of all loops."""
    leaves = heap[1]
    return tuple([at for at in range(len(leaves)) if leaves[at][0] == leaves[at][1]])


def from_word(heap, word):
    """The set of the leaves that begin with the word."""
    need(is_word(heap, word), "word")
    leaves = heap[1]
    return tuple([at for at in range(len(leaves)) if leaves[at][0] == word])


def to_word(heap, word):
    """The set of the leaves that end in the word."""
    need(is_word(heap, word), "word")
    leaves = heap[1]
    return tuple([at for at in range(len(leaves)) if leaves[at][1] == word])


def like_leaves(heap, leaf):
    """The set of all leaves that are like the leaf."""
    need(is_leaf(heap, leaf), "leaf")
    leaves = heap[1]
    return tuple([at for at in range(len(leaves)) if leaves[at] == leaves[leaf]])


def like_sets(heap):
    """The set of all sets of two or more like leaves."""
    alike = [like_leaves(heap, leaf) for leaf in range(len(heap[1]))]
    return tuple([alike[leaf] for leaf in range(len(alike)) if len(alike[leaf]) > 1 and alike[leaf][0] == leaf])
