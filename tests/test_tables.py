from fractions import Fraction

from tests.books import EACH, LOOSE, ONE, RING, SAMPLES, SINGLE, all_trees, fraction, random_books, small_books
from tests.cases import NOT_NUMBERS, Case
from unsewn.kinds import is_quotient
from unsewn.tables import column_of, table_of


def visits(book, ground, y, steps):
    """How often in the mean one who goes at random, by leaves, comes to y ahead of the ground; nearly, by word."""
    chance = [[0.0] * book[0] for _ in range(book[0])]
    fans = [sum(leaf[0] == word for leaf in book[1]) for word in range(book[0])]
    for first, catchword in book[1]:
        chance[first][catchword] += 1 / fans[first]
    result = [0.0] * book[0]
    for start in range(book[0]):
        here = [float(word == start) for word in range(book[0])]
        here[ground] = 0.0
        for _ in range(steps):
            result[start] += here[y]
            here = [sum(here[x] * chance[x][word] for x in range(book[0])) for word in range(book[0])]
            here[ground] = 0.0
    return [result[start] / fans[y] for start in range(book[0])]


class TestTables(Case):
    def test_examples(self):
        self.assert_exact(table_of(LOOSE, 1), (((1, 2), (0, 1)), ((0, 1), (0, 1))))
        ring = (((1, 1), (1, 1), (0, 1)), ((0, 1), (1, 1), (0, 1)), ((0, 1), (0, 1), (0, 1)))
        self.assert_exact(table_of(RING, 2), ring)
        self.assert_exact(column_of(EACH, 2, 0), ((2, 3), (1, 3), (0, 1)))

    def test_one_word(self):
        for book in (ONE, SINGLE):
            self.assert_exact(table_of(book, 0), (((0, 1),),))
            self.assert_exact(column_of(book, 0, 0), ((0, 1),))

    def books(self):
        return SAMPLES + tuple(small_books(3, 5)) + tuple(random_books(35, 30, 10, 40))

    def test_definition(self):
        for book in self.books():
            size, leaves = book
            for ground in range(size):
                table = table_of(book, ground)
                self.assertEqual((len(table), {len(row) for row in table}), (size, {size}))
                self.assertTrue(all(is_quotient(entry) for row in table for entry in row))
                for x in range(size):
                    self.assert_exact((table[x][ground], table[ground][x]), ((0, 1), (0, 1)))
                    begin = [leaf for leaf in leaves if leaf[0] == x]
                    for y in range(size):
                        if y != ground:
                            left = len(begin) * fraction(table[x][y]) - sum(fraction(table[leaf[1]][y]) for leaf in begin)
                            self.assertEqual(left, (x == y) - (x == ground))

    def test_columns(self):
        for book in self.books():
            for ground in range(book[0]):
                table = table_of(book, ground)
                for word in range(book[0]):
                    self.assert_exact(column_of(book, ground, word), tuple(row[word] for row in table))

    def test_visits(self):
        for book in (RING, EACH, LOOSE) + tuple(random_books(9, 10, 3, 6)):
            for ground in range(book[0]):
                table = table_of(book, ground)
                for y in range(book[0]):
                    if y != ground:
                        for x, told in enumerate(visits(book, ground, y, 400)):
                            self.assertAlmostEqual(float(fraction(table[x][y])), told)

    def test_consequences(self):
        for book in SAMPLES + tuple(small_books(3, 5)):
            for ground in range(book[0]):
                table = table_of(book, ground)
                trees = len(all_trees(book, ground))
                into = [leaf[0] for leaf in book[1] if leaf[1] == ground]
                for x in range(book[0]):
                    for y in range(book[0]):
                        entry = fraction(table[x][y])
                        self.assertTrue(0 <= entry <= fraction(table[y][y]))
                        self.assertEqual((entry * trees).denominator, 1)
                    if x != ground:
                        self.assertEqual(sum((fraction(table[x][first]) for first in into), Fraction(0)), 1)

    def test_by_name(self):
        self.assert_exact(table_of(ground=1, book=LOOSE), table_of(LOOSE, 1))
        self.assert_exact(column_of(word=0, ground=1, book=LOOSE), ((1, 2), (0, 1)))

    def test_refusals(self):
        wrong = NOT_NUMBERS + (3,)
        self.assert_refused_in_order(table_of, (("book", EACH), ("ground", 0)), {"ground": wrong})
        good = (("book", EACH), ("ground", 0), ("word", 1))
        self.assert_refused_in_order(column_of, good, {"ground": wrong, "word": wrong})
