"""The checker of maps."""

from unsewn.cutting import cut_book
from unsewn.errors import InvalidPaper
from unsewn.heaplots import entering, leaving
from unsewn.kinds import ascends, is_lot, is_number, is_tuple_of
from unsewn.landrings import has_land, is_ball, land_count, last_three


def lets_map(book, three, thing):
    """How many lands of both sorts the map of a, b, c has."""
    cut = cut_book(book, three)
    if not is_pair_of_rows(thing):
        raise InvalidPaper("kind", -1)
    lots, rounds = thing
    if not are_parting(cut, lots) or len(rounds) != len(lots):
        raise InvalidPaper("lots", -1)
    for at in range(len(lots)):
        look_at_lot(cut, lots[at], rounds[at], at)
    if not is_ball(rounds):
        raise InvalidPaper("ball", -1)
    if not has_land(lots, rounds, last_three(cut)):
        raise InvalidPaper("land", -1)
    return land_count(rounds)


def is_pair_of_rows(thing):
    """Whether thing is a pair of two tuples of tuples of numbers."""
    if not isinstance(thing, tuple) or len(thing) != 2:
        return False
    return all([is_tuple_of(lambda row: is_tuple_of(is_number, row), rows) for rows in thing])


def are_parting(cut, lots):
    """Whether the lots, tuples of numbers, are an ascending tuple of sets of words, each word in just one."""
    if not all([is_lot(cut, lot) for lot in lots]) or not ascends(lots):
        return False
    return sorted([word for lot in lots for word in lot]) == list(range(cut[0]))


def look_at_lot(cut, lot, leaves, at):
    """Raise what is wrong with the lot, whose index is at, and with its round, leaves."""
    told = len([word for word in last_three(cut) if word in lot])
    if told > 1:
        raise InvalidPaper("ends", at)
    out = leaving(cut, lot)
    if len(out) != 1 and (told == 1 or len(out) != 2):
        raise InvalidPaper("gates", at)
    if tuple(sorted(leaves[::2])) != out or tuple(sorted(leaves[1::2])) != entering(cut, lot):
        raise InvalidPaper("round", at)
