"""Readings that begin with told leaves: how many there are, and which one has so many ahead of it."""

from unsewn.glueing import book_of_rows, count_by_rows
from unsewn.growing import grown_at, grown_number
from unsewn.quotients import times
from unsewn.readings import next_leaves
from unsewn.shares import order_share


def rows_behind(book, row):
    """A list of the row and, behind it, a row of one for each other leaf, ascending."""
    return [row] + [(leaf,) for leaf in range(len(book[1])) if leaf not in row]


def count_behind_row(book, row):
    """How many readings begin with the row."""
    return count_by_rows(book, rows_behind(book, row))


def ordered_behind_row(book, row, three):
    """How many readings that begin with the row, and so with a, have the order a, b, c."""
    _, b, c = three
    if c in row:
        ahead = b in row and row.index(b) < row.index(c)
        return count_behind_row(book, row) if ahead else 0
    many = count_behind_row(book, row)
    if b in row or many == 0:
        return many
    rows = rows_behind(book, row)
    share = order_share(book_of_rows(book, rows), (0, rows.index((b,)), rows.index((c,))))
    return times((many, 1), share)[0]


def reading_behind(book, first, ahead, count):
    """The reading from first that has so many ahead of it; count tells of a row how many begin with it."""
    return grown_at((first,), len(book[1]), lambda row: next_leaves(book, row), count, ahead)


def count_ahead(book, reading, count):
    """How many readings from the same leaf are less; count tells of a row how many begin with it."""
    return grown_number(reading, 1, lambda row: next_leaves(book, row), count)
