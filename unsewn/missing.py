"""The one leaf that a heap lacks to be a book."""

from unsewn.kinds import is_book
from unsewn.mending import mend_leaves


def missing_leaf(heap):
    """("leaf", (x, y)) or ("loop",) if the heap with such a leaf more is a book; else ("none",)."""
    # To a book, any leaf but a loop gives words that are not even.
    if is_book(heap):
        return ("loop",)
    lacking = mend_leaves(heap)
    if len(lacking) != 1:
        return ("none",)
    x, y = lacking[0]
    return ("loop",) if x == y else ("leaf", (x, y))
