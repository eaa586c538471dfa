"""A book cut at three leaves."""

from unsewn.checks import need
from unsewn.kinds import is_three


def cut_book(book, three):
    """The book cut at three."""
    need(is_three(book, three), "three")
    size, leaves = book
    cut = list(leaves)
    for at in range(3):
        first, catchword = leaves[three[at]]
        cut[three[at]] = (first, size + at)
        cut.append((size + at, catchword))
    return size + 3, tuple(cut)
