"""The fewest leaves that make a heap a book."""

from unsewn.heapcounts import surplus_of
from unsewn.heaplots import pieces_of
from unsewn.kinds import is_book


def lacking_ends(heap):
    """A pair of lists: the words that more leaves have to begin with, and those that more have to end in.

    Both go piece by piece and have as many words of one piece; a piece whose words are all even is told by its least
    word. They are of the heap as it is, be it a book or not.
    """
    begins = []
    ends = []
    for piece in pieces_of(heap):
        surplus = [surplus_of(heap, word) for word in piece]
        if any(surplus):
            begins.extend([word for word, more in zip(piece, surplus) for _ in range(more)])
            ends.extend([word for word, more in zip(piece, surplus) for _ in range(-more)])
        else:
            begins.append(piece[0])
            ends.append(piece[0])
    return begins, ends


def mend_count(heap):
    """The least number of leaves with which, put behind the heap's, it is a book."""
    return len(mend_leaves(heap))


def mend_leaves(heap):
    """Any tuple of as few pairs of words as possible with which, put behind the heap's leaves, it is a book."""
    if is_book(heap):
        return ()
    begins, ends = lacking_ends(heap)
    # Each begin goes with the end one further round, so the last begin of each piece leads on to the next piece.
    return tuple([(begins[at - 1], ends[at]) for at in range(len(ends))])
