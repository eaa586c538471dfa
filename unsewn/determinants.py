"""Determinants, and the rows of a book whose determinant counts its trees."""

from unsewn.checks import need
from unsewn.kinds import is_integer, is_tuple_of, is_word


def swept(rows):
    """A pair (determinant, rows swept) of the square of the first columns, as many as there are rows.

    Swept, row k has in these columns only a number at k: the determinant, or that times -1 if rows have changed
    places an odd number of times. If the determinant is 0, the rows are not to be used.
    """
    rows = [list(row) for row in rows]
    width = len(rows)
    sign = 1
    before = 1
    for at in range(width):
        pick = at
        while pick < width and rows[pick][at] == 0:
            pick += 1
        if pick == width:
            return 0, rows
        if pick != at:
            rows[at], rows[pick] = rows[pick], rows[at]
            sign = -sign
        lead = rows[at]
        rows = [row if k == at else cleared(row, lead, at, before) for k, row in enumerate(rows)]
        before = lead[at]
    return sign * before, rows


def cleared(row, lead, at, before):
    """The row with nought at the index, made by a row that leads there; before is the leading number ahead of it."""
    # These divisions come out even (Bareiss), so all numbers stay integers, and short ones.
    return [(lead[at] * mine - row[at] * theirs) // before for mine, theirs in zip(row, lead)]


def determinant(rows):
    """The determinant of a square of integers, at most ten by ten."""
    need(isinstance(rows, tuple) and len(rows) <= 10, "rows")
    need(all([is_tuple_of(is_integer, row) and len(row) == len(rows) for row in rows]), "rows")
    return swept(rows)[0]


def walk_rows(book, ground):
    """Rows and columns for the words but the ground: fan less loops, and less one for each leaf between two."""
    need(is_word(book, ground), "ground")
    size, leaves = book
    rows = [[0] * size for _ in range(size)]
    for first, catchword in leaves:
        rows[first][first] += 1
        rows[first][catchword] -= 1
    kept = words_but(book, ground)
    return tuple([tuple([rows[word][column] for column in kept]) for word in kept])


def words_but(book, ground):
    """A list of all words but the ground, ascending."""
    return [word for word in range(book[0]) if word != ground]
