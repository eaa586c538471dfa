"""Lots of a book cut that may shrink to a point, and a parting into such lots."""

from unsewn.checks import need
from unsewn.cutting import cut_book
from unsewn.heaplots import gates_of, hangs_together
from unsewn.kinds import is_lot


def may_shrink(book, three, lot):
    """Whether the lot of words of the book cut may shrink."""
    cut = cut_book(book, three)
    need(is_lot(cut, lot), "lot")
    return shrinks_in(cut, lot)


def shrinks_in(cut, lot):
    """Whether the lot may shrink in the book cut, whose last three words are A, B and C."""
    if len(lot) < 2 or len(lot) == cut[0]:
        return False
    gates = gates_of(cut, lot)
    told = len([word for word in lot if word >= cut[0] - 3])
    if gates == 1:
        return told <= 1
    return gates == 2 and told == 0 and hangs_together(cut, lot)


def shrunk(book, three):
    """Any parting of the words of the book cut into lots that may shrink, or of one word, no union of which may."""
    cut = cut_book(book, three)
    lots = [(word,) for word in range(cut[0])]
    united = first_union(cut, lots)
    while united is not None:
        lots = [lot for lot in lots if lot[0] not in united]
        lots.append(united)
        united = first_union(cut, lots)
    return tuple(sorted(lots))


def first_union(cut, lots):
    """The first union of two or more of the lots that may shrink; None if there is none."""
    for mask in range(1 << len(lots)):
        chosen = [lots[at] for at in range(len(lots)) if mask >> at & 1]
        if len(chosen) > 1:
            union = tuple(sorted([word for lot in chosen for word in lot]))
            if shrinks_in(cut, union):
                return union
    return None
