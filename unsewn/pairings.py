"""Pairings, and the rolls in which they lay the leaves."""

from unsewn.checks import need
from unsewn.growing import grown_rows
from unsewn.kinds import is_leaf, is_order
from unsewn.readings import is_reading, started_at
from unsewn.rings import rings_of


def is_pairing(book, thing):
    """Whether thing is a pairing of the book."""
    leaves = book[1]
    if not is_order(len(leaves), thing):
        return False
    return all([leaves[leaf][1] == leaves[thing[leaf]][0] for leaf in range(len(leaves))])


def rolls_by(pairing):
    """The rolls of a tuple that is known to be a pairing."""
    return rings_of(dict(enumerate(pairing)))


def rolls_of(book, pairing):
    """The rolls, a set."""
    need(is_pairing(book, pairing), "pairing")
    return rolls_by(pairing)


def pairing_of(book, reading):
    """The pairing that gives each leaf the one that comes next behind it in the ring."""
    need(is_reading(book, reading), "reading")
    behind = [None] * len(reading)
    for at in range(len(reading)):
        behind[reading[at - 1]] = reading[at]
    return tuple(behind)


def reading_from(book, pairing, first):
    """The reading from first by the pairing; None if it has two rolls or more."""
    need(is_pairing(book, pairing), "pairing")
    need(is_leaf(book, first), "first")
    rolls = rolls_by(pairing)
    return started_at(book, rolls[0], first) if len(rolls) == 1 else None


def all_pairings(book):
    """A generator of all pairings, ascending."""
    start = ()
    many = len(book[1])
    yield from grown_rows(start, many, lambda row: leaves_to_give(book, row))


def leaves_to_give(book, row):
    """A list of the leaves, ascending, that a pairing that begins with the row can give to the next leaf.

    As many leaves end in a word as begin with it, so each of them leaves enough for the leaves behind.
    """
    leaves = book[1]
    word = leaves[len(row)][1]
    return [leaf for leaf in range(len(leaves)) if leaves[leaf][0] == word and leaf not in row]


def roll_table(book):
    """A tuple that holds at the index i how many pairings have i + 1 rolls."""
    counts = [0] * len(book[1])
    for pairing in all_pairings(book):
        counts[len(rolls_by(pairing)) - 1] += 1
    while counts[-1] == 0:
        counts.pop()
    return tuple(counts)
