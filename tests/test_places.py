from itertools import permutations

from tests.books import (
    EACH, LOOSE, ODD_VALUES, PAIR, RING, SAMPLES, SINGLE, all_readings, fraction, random_books, share, small_books,
)
from tests.cases import NOT_NUMBERS, Case
from unsewn.bestrows import best_row, is_row, row_cost
from unsewn.places import mean_place, mean_places
from unsewn.shares import before_rows

NOT_ROWS = ODD_VALUES + ((1, 2, 3), (1, 2, 3, 3), (1, 2, 3, 5), (0, 1, 2, 3), (0, 1, 2, 3, 4), [1, 2, 3, 4],
                         (True, 2, 3, 4), (1, 2, 3, "4"), (1, 2, 3, None), (1, 2, 3, 4, 4))


def plain_cost(readings, row):
    parts = [sum((reading.index(leaf) - at - 1) ** 2 for at, leaf in enumerate(row)) for reading in readings]
    return share(sum(parts), len(readings))


class TestPlaces(Case):
    def test_examples(self):
        self.assert_exact(mean_places(LOOSE, 0), ((0, 1), (2, 1), (11, 4), (11, 4), (5, 2)))

    def test_edges(self):
        self.assert_exact(mean_places(SINGLE, 0), ((0, 1),))
        self.assert_exact(mean_place(SINGLE, 0, 0), (0, 1))
        self.assert_exact(mean_places(PAIR, 1), ((1, 1), (0, 1)))
        self.assert_exact(mean_places(RING, 1), ((2, 1), (0, 1), (1, 1)))

    def test_against_all_readings(self):
        for book in SAMPLES + tuple(small_books(3, 6)) + tuple(random_books(49, 25, 5, 8)):
            many = len(book[1])
            for cover in range(many):
                readings = all_readings(book, cover)
                told = tuple(
                    share(sum(reading.index(leaf) for reading in readings), len(readings)) for leaf in range(many))
                self.assert_exact(mean_places(book, cover), told)
                for leaf in range(many):
                    self.assert_exact(mean_place(book, cover, leaf), told[leaf])

    def test_columns_add_up(self):
        for book in random_books(50, 8, 10, 40):
            many = len(book[1])
            rows = before_rows(book, 0)
            means = [fraction(mean) for mean in mean_places(book, 0)]
            self.assertEqual(means, [sum(fraction(row[leaf]) for row in rows) for leaf in range(many)])
            self.assertEqual(sum(means), many * (many - 1) // 2)

    def test_refusals(self):
        wrong = NOT_NUMBERS + (5,)
        good = (("book", LOOSE), ("cover", 0), ("leaf", 1))
        self.assert_refused_in_order(mean_place, good, {"cover": wrong, "leaf": wrong})
        self.assert_refused_in_order(mean_places, good[:2], {"cover": wrong})
        self.assert_exact(mean_place(leaf=1, cover=0, book=LOOSE), (2, 1))


class TestRows(Case):
    def test_examples(self):
        self.assert_exact(best_row(LOOSE, 0), (1, 4, 2, 3))
        self.assert_exact(row_cost(LOOSE, 0, (1, 4, 2, 3)), (15, 2))

    def test_edges(self):
        self.assert_exact((best_row(SINGLE, 0), row_cost(SINGLE, 0, ())), ((), (0, 1)))
        self.assert_exact((best_row(PAIR, 1), row_cost(PAIR, 1, (0,))), ((0,), (0, 1)))
        self.assert_exact((best_row(RING, 1), row_cost(RING, 1, (2, 0)), row_cost(RING, 1, (0, 2))), ((2, 0), (0, 1), (2, 1)))
        self.assert_exact((is_row(SINGLE, 0, ()), is_row(SINGLE, 0, (0,))), (True, False))

    def test_rows(self):
        for cover in range(5):
            others = [leaf for leaf in range(5) if leaf != cover]
            for row in permutations(others):
                self.assert_exact(is_row(LOOSE, cover, row), True)
        for thing in NOT_ROWS:
            self.assert_exact(is_row(LOOSE, 0, thing), False, thing)
        self.assert_exact((is_row(LOOSE, 4, (1, 2, 3, 4)), is_row(LOOSE, 4, (3, 1, 0, 2))), (False, True))

    def test_costs_against_all_readings(self):
        for book in SAMPLES[:5] + tuple(small_books(2, 5)) + tuple(random_books(51, 10, 4, 6)):
            for cover in range(len(book[1])):
                readings = all_readings(book, cover)
                means = mean_places(book, cover)
                best = best_row(book, cover)
                others = [leaf for leaf in range(len(means)) if leaf != cover]
                self.assert_exact(best, tuple(sorted(others, key=lambda leaf: (fraction(means[leaf]), leaf))))
                least = fraction(plain_cost(readings, best))
                for row in list(permutations(others))[::5]:
                    cost = row_cost(book, cover, row)
                    self.assert_exact(cost, plain_cost(readings, row))
                    risen = [fraction(means[leaf]) for leaf in row]
                    self.assertEqual(fraction(cost) == least, risen == sorted(risen))
                    self.assertTrue(fraction(cost) >= least)

    def test_refusals(self):
        wrong = NOT_NUMBERS + (5,)
        good = (("book", LOOSE), ("cover", 0), ("row", (1, 2, 3, 4)))
        self.assert_refused_in_order(row_cost, good, {"cover": wrong, "row": NOT_ROWS})
        self.assert_refused_in_order(best_row, good[:2], {"cover": wrong})
        for cover in wrong:
            self.assert_not_usable("cover", is_row, LOOSE, cover, (1, 2, 3, 4))
        self.assert_exact(is_row(thing=(1, 2, 3, 4), cover=0, book=LOOSE), True)
        self.assert_exact(row_cost(row=(1, 2), cover=0, book=EACH[:1] + (EACH[1][:3],)), (0, 1))
