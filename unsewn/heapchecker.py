"""What a heap lacks to be a book, and the checker of books."""

from unsewn.errors import InvalidPaper
from unsewn.heapcounts import surplus_of
from unsewn.kinds import is_heap
from unsewn.reach import reached_from


def fault_of(heap):
    """None for a book; else what is wrong first, by its name, and where."""
    size, leaves = heap
    # Only words that stand on leaves can be uneven, so a size far beyond the leaves makes no work.
    words = sorted({word for leaf in leaves for word in leaf})
    uneven = [word for word in words if surplus_of(heap, word) != 0]
    if uneven:
        return "uneven", uneven[0]
    bare = first_bare(leaves)
    if bare < size:
        return "bare", bare
    piece = reached_from(leaves, 0)
    if len(piece) < size:
        return "apart", piece
    return None


def first_bare(leaves):
    """The least number with which no leaf begins."""
    firsts = {first: True for first, _ in leaves}
    bare = 0
    while bare in firsts:
        bare += 1
    return bare


def lets_book(thing):
    """How many leaves the book has."""
    if not is_heap(thing):
        raise InvalidPaper("heap", -1)
    fault = fault_of(thing)
    if fault is not None:
        word, at = fault
        if word == "apart":
            at = min([outside for outside in range(thing[0]) if outside not in fault[1]])
        raise InvalidPaper(word, at)
    return len(thing[1])
