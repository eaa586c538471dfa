"""Tables of chords: which chords cross, which lots of them are free, and pivoting at two."""

from unsewn.checks import need
from unsewn.kinds import is_below, is_integer, is_set_below, is_tuple_of


def is_chords(thing):
    """Whether thing is a table of chords."""
    if not isinstance(thing, tuple):
        return False
    many = len(thing)
    if not all([is_tuple_of(is_integer, row) and len(row) == many for row in thing]):
        return False
    if not all([entry in (0, 1) for row in thing for entry in row]):
        return False
    return all([thing[i][i] == 0 and thing[i][j] == thing[j][i] for i in range(many) for j in range(i + 1)])


def rank_within(table, lot):
    """The rank, by odd and even, of the table's rows and columns at the chords of the lot."""
    reduced = []
    for chord in lot:
        bits = sum([table[chord][other] << other for other in lot])
        # Each row kept has nought at the foremost bits of those kept ahead of it, so one pass clears them all.
        for kept in reduced:
            bits = min(bits, bits ^ kept)
        if bits:
            reduced.append(bits)
    return len(reduced)


def rank_on(table, lot):
    """The greatest number of chords of the lot of which each choice is crossed oddly by some chord of the lot."""
    need(is_chords(table), "table")
    need(is_set_below(len(table), lot), "lot")
    return rank_within(table, lot)


def is_free(table, lot):
    """Whether the rank on the lot is the number of its chords."""
    return rank_on(table, lot) == len(lot)


def pivoted(table, one, other):
    """The table pivoted at two chords that cross."""
    need(is_chords(table), "table")
    many = len(table)
    need(is_below(many, one), "one")
    need(is_below(many, other) and table[one][other] == 1, "other")
    return tuple([tuple([pivoted_entry(table, one, other, x, y) for y in range(many)]) for x in range(many)])


def pivoted_entry(table, one, other, x, y):
    """Whether x crosses y, 1 or 0, in the table pivoted at one and other."""
    changed = {one: other, other: one}
    if x in changed and y in changed:
        return table[x][y]
    if x in changed:
        return table[changed[x]][y]
    if y in changed:
        return table[x][changed[y]]
    there = table[x][one] * table[y][other]
    back = table[x][other] * table[y][one]
    # A chord does not cross itself; for x = y both products are the same, so nothing changes.
    return table[x][y] ^ there ^ back


def free_lots(table):
    """The set of all free lots."""
    need(is_chords(table), "table")
    many = len(table)
    lots = [tuple([chord for chord in range(many) if mask >> chord & 1]) for mask in range(1 << many)]
    return tuple(sorted([lot for lot in lots if rank_within(table, lot) == len(lot)]))
