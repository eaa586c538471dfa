"""Maps of three leaves that come surely in their order."""

from unsewn.cutting import cut_book
from unsewn.heaplots import entering, leaving
from unsewn.landrings import has_land, is_ball, last_three
from unsewn.shrinking import shrunk


def map_of(book, three):
    """Any map of a, b, c; None if there is none."""
    cut = cut_book(book, three)
    lots = shrunk(book, three)
    if max([len(leaving(cut, lot)) for lot in lots]) > 2:
        return None
    # If there is a map at all, there is one with these lots; what is left to find are its rounds.
    return map_with(cut, lots)


def map_with(cut, lots):
    """Any map of the book cut that has these lots, with one gate each or two; None if there is none."""
    for rounds in all_rounds(cut, lots):
        if is_ball(rounds) and has_land(lots, rounds, last_three(cut)):
            return lots, rounds
    return None


def all_rounds(cut, lots):
    """A list of all choices of a round for each lot with one or two gates."""
    choices = [()]
    for lot in lots:
        out = leaving(cut, lot)
        back = entering(cut, lot)
        rounds = [(out[0], back[0])]
        if len(out) == 2:
            rounds = [(out[0], back[0], out[1], back[1]), (out[0], back[1], out[1], back[0])]
        choices = [choice + (leaves,) for choice in choices for leaves in rounds]
    return choices
