"""Chords on two sides, or an odd round of them."""

from unsewn.checks import need
from unsewn.chordtables import is_chords


def chord_ways(table):
    """A pair of lists, by chord: the crossings from it to the least chord to which they lead, and the next chord there.

    The least chord itself is 0 away, and stands next to itself.
    """
    away = [None] * len(table)
    towards = list(range(len(table)))
    for start in range(len(table)):
        if away[start] is None:
            away[start] = 0
            waiting = [start]
            while waiting:
                waiting = spread(table, waiting, away, towards)
    return away, towards


def spread(table, waiting, away, towards):
    """Note all chords not yet noted that cross one of those waiting, and return them."""
    noted = []
    for chord in waiting:
        for other in range(len(table)):
            if table[chord][other] == 1 and away[other] is None:
                away[other] = away[chord] + 1
                towards[other] = chord
                noted.append(other)
    return noted


def pair_on_one_side(table, away):
    """A pair of chords that cross and are equally far away; None without one.

    Chords that cross are at most one crossing further away than each other, so else one is on the other side.
    """
    for one in range(len(table)):
        for other in range(one):
            if table[one][other] == 1 and away[one] == away[other]:
                return one, other
    return None


def sides_of(table):
    """Any tuple, by chord, of 0 and 1, unlike for each two chords that cross; None if there is none."""
    need(is_chords(table), "table")
    away, _ = chord_ways(table)
    if pair_on_one_side(table, away) is not None:
        return None
    return tuple([steps % 2 for steps in away])


def odd_round(table):
    """Any tuple of an odd number of different chords, each crossing the next one round; None if there is none."""
    need(is_chords(table), "table")
    away, towards = chord_ways(table)
    pair = pair_on_one_side(table, away)
    if pair is None:
        return None
    one, other = pair
    there = [one]
    back = [other]
    while there[-1] != back[-1]:
        there.append(towards[there[-1]])
        back.append(towards[back[-1]])
    return tuple(there + back[-2::-1])
