"""A book halved at a lot with one gate."""

from unsewn.checks import need
from unsewn.heaplots import entering, gates_of, leaving, within
from unsewn.makings import is_part, put_together


def halves_of(book, lot):
    """A pair (inner, outer): the lot closed to a book of its own, and the book in which the lot is one word."""
    need(is_part(book, lot) and gates_of(book, lot) == 1, "lot")
    leaves = book[1]
    inside = [leaves[leaf] for leaf in within(book, lot)]
    # Each word is even, so just one leaf enters a lot that just one leaves.
    inside.append((leaves[leaving(book, lot)[0]][0], leaves[entering(book, lot)[0]][1]))
    inner = len(lot), tuple([(lot.index(first), lot.index(catchword)) for first, catchword in inside])
    return inner, put_together(book, lot)
