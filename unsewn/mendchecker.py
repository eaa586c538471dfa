"""The checker of leaves that mend a heap."""

from unsewn.errors import InvalidPaper
from unsewn.kinds import are_pairs_below, is_book
from unsewn.mending import mend_count


def lets_mend(heap, thing):
    """How many pairs thing has."""
    size, leaves = heap
    if not are_pairs_below(size, thing):
        raise InvalidPaper("kind", -1)
    if not is_book((size, leaves + thing)):
        raise InvalidPaper("book", -1)
    if len(thing) > mend_count(heap):
        raise InvalidPaper("many", -1)
    return len(thing)
