"""Books whose fans are all two: followers exchanged at the words of a lot."""

from unsewn.checks import need
from unsewn.crossings import are_twofold
from unsewn.heapcounts import to_word
from unsewn.kinds import is_lot
from unsewn.pairings import pairing_of, reading_from, rolls_of
from unsewn.readings import is_reading


def pairing_after(book, reading, lot):
    """The reading's pairing with the followers exchanged at each word of the lot."""
    need(are_twofold(book), "book")
    need(is_reading(book, reading), "reading")
    need(is_lot(book, lot), "lot")
    behind = list(pairing_of(book, reading))
    for word in lot:
        one, other = to_word(book, word)
        behind[one], behind[other] = behind[other], behind[one]
    return tuple(behind)


def rolls_after(book, reading, lot):
    """The rolls, a set, behind the exchange at the lot."""
    return rolls_of(book, pairing_after(book, reading, lot))


def reading_after(book, reading, lot):
    """The reading behind the exchange at the lot, from the same leaf; None if there are more rolls than one."""
    return reading_from(book, pairing_after(book, reading, lot), reading[0])
