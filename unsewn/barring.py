"""Readings that have some finds and have none of others: how many there are, and in which orders leaves come in them.

Finds that are barred are taken off by signs, so that one counts only readings that have finds, and these by rows.
"""

from unsewn.counts import reading_count
from unsewn.findkinds import are_finds
from unsewn.glueing import book_of_rows, count_by_rows, rows_by, rows_with
from unsewn.kinds import is_book
from unsewn.quotients import times
from unsewn.rings import comes_round
from unsewn.shares import scaled_leads, share_in


def rows_having(book, pairs):
    """The rows into which the leaves go where a reading has all pairs, a set of single finds; None if none has.

    Finds that close a ring are no finds, but a reading can have them all: if the ring is the reading itself.
    """
    if are_finds(book, pairs):
        rows = rows_by(book, pairs)
        return rows if is_book(book_of_rows(book, rows)) else None
    rest = pairs[:-1]
    if len(pairs) == len(book[1]) and are_finds(book, rest):
        rows = rows_by(book, rest)
        return rows if (rows[0][-1], rows[0][0]) == pairs[-1] else None
    return None


def rows_barring(book, pairs, barred):
    """A list of pairs (sign, rows): so often count the readings with these rows, if all pairs and no barred are had."""
    told = []
    for mask in range(1 << len(barred)):
        chosen = [barred[at] for at in range(len(barred)) if mask >> at & 1]
        rows = rows_having(book, tuple(sorted(set(list(pairs) + chosen))))
        if rows is not None:
            told.append((-1 if len(chosen) & 1 else 1, rows))
    return told


def count_having(book, pairs, barred):
    """How many readings have all pairs and none of the barred."""
    return sum([sign * count_by_rows(book, rows) for sign, rows in rows_barring(book, pairs, barred)])


def orders_having(book, pairs, barred, threes):
    """How many readings have all pairs, none of the barred, and the order of a three, added up over the threes."""
    return sum([sign * orders_by_rows(book, rows, threes) for sign, rows in rows_barring(book, pairs, barred)])


def orders_by_rows(book, rows, threes):
    """How many readings have the rows and the order of a three, added up over the threes; at least one has the rows."""
    made = book_of_rows(book, rows)
    many = reading_count(made)
    leads = scaled_leads(made)
    # Leaves that stand in one row or two come in one order alone, in whichever order the rows are.
    ring = [leaf for row in rows for leaf in row]
    often = 0
    for three in threes:
        homes = rows_with(rows, three)
        if len(set(homes)) == 3:
            often += times((many, 1), share_in(leads, homes))[0]
        elif comes_round(ring, three):
            often += many
    return often
