from tests.books import EACH, LOOSE, ONE, RING, SINGLE, all_readings, comes, random_books, small_books, threes
from tests.cases import Case
from unsewn.prefixes import count_behind_row, ordered_behind_row
from unsewn.readings import next_leaves

BOOKS = (RING, EACH, LOOSE, ONE, SINGLE) + tuple(small_books(2, 4)) + tuple(random_books(76, 12, 4, 6))


def all_rows(book, first):
    """All tuples of leaves from first in which each leaf's catchword is the first word of the next one."""
    rows = [(first,)]
    for row in rows:
        for leaf, (word, _) in enumerate(book[1]):
            if leaf not in row and word == book[1][row[-1]][1]:
                rows.append(row + (leaf,))
    return rows


class TestPrefixes(Case):
    def test_next_leaves(self):
        for book in BOOKS:
            readings = all_readings(book, 0)
            for row in {reading[:at] for reading in readings for at in range(1, len(reading))}:
                told = sorted({reading[len(row)] for reading in readings if reading[:len(row)] == row})
                self.assert_exact(next_leaves(book, row), told)

    def test_counts(self):
        for book in BOOKS:
            readings = all_readings(book, 0)
            for row in all_rows(book, 0):
                told = [reading for reading in readings if reading[:len(row)] == row]
                self.assert_exact(count_behind_row(book, row), len(told))
                for three in [three for three in threes(book) if three[0] == 0]:
                    many = sum(comes(reading, three) for reading in told)
                    self.assert_exact(ordered_behind_row(book, row, three), many)
