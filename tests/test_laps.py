import random
from itertools import permutations

from tests.books import (
    EACH, LOOSE, PAIR, RING, SAMPLES, SINGLE, all_readings, fraction, random_books, share, small_books, threes,
)
from tests.cases import NOT_NUMBERS, Case
from tests.test_fours import in_order
from tests.test_surely import NOT_RINGS
from unsewn.fours import four_gap
from unsewn.laps import distance_mean, laps_mean
from unsewn.places import mean_place
from unsewn.shares import order_share
from unsewn.surely import sure_ring

BOOKS = SAMPLES + tuple(small_books(3, 5)) + tuple(random_books(53, 15, 4, 7))


def laps(reading, leaves):
    """How many times one goes round who goes from leaf to leaf and back to the first."""
    steps = 0
    for one, other in zip(leaves, leaves[1:] + leaves[:1]):
        steps += (reading.index(other) - reading.index(one)) % len(reading)
    return steps // len(reading)


class TestLaps(Case):
    def test_examples(self):
        self.assert_exact(laps_mean(LOOSE, (0, 1, 2, 4)), (7, 4))
        self.assert_exact(distance_mean(LOOSE, 0, 1), (2, 1))

    def test_edges(self):
        self.assert_exact((laps_mean(PAIR, (1, 0)), distance_mean(PAIR, 0, 1), distance_mean(PAIR, 1, 0)), ((1, 1),) * 3)
        self.assert_exact((laps_mean(RING, (0, 1, 2)), laps_mean(RING, (0, 2, 1))), ((1, 1), (2, 1)))
        self.assert_exact((distance_mean(RING, 0, 2), distance_mean(RING, 2, 0)), ((2, 1), (1, 1)))

    def test_laps_against_all_readings(self):
        rng = random.Random(54)
        for book in BOOKS:
            readings = all_readings(book, 0)
            for length in range(2, min(len(book[1]), 6) + 1):
                rows = list(permutations(range(len(book[1])), length))
                for row in rng.sample(rows, min(len(rows), 8)):
                    told = sum(laps(reading, row) for reading in readings)
                    self.assert_exact(laps_mean(book, row), share(told, len(readings)))
                    mean = fraction(laps_mean(book, row))
                    # One who always goes round once comes to them in their order, and the other way about.
                    self.assertEqual(mean == 1, sure_ring(book, row))
                    orders = sum(in_order(reading, row) for reading in readings)
                    lead = length - 2 * mean
                    self.assertTrue((4 - length + lead) / 2 * len(readings) <= orders)
                    if length > 2:
                        self.assertTrue(orders <= len(readings) * (1 + lead / (length - 2)) / 2)

    def test_distances_against_all_readings(self):
        for book in BOOKS:
            many = len(book[1])
            for one in range(many):
                readings = all_readings(book, one)
                for other in range(many):
                    if one != other:
                        told = share(sum(reading.index(other) for reading in readings), len(readings))
                        self.assert_exact(distance_mean(book, one, other), told)
                        self.assert_exact(mean_place(book, one, other), told)

    def test_consequences(self):
        for book in random_books(55, 10, 10, 40):
            many = len(book[1])
            if many > 3:
                self.assert_exact(laps_mean(book, (3, 1)), (1, 1))
                self.assertEqual(fraction(distance_mean(book, 3, 1)) + fraction(distance_mean(book, 1, 3)), many)
                for three in list(threes(book))[:5]:
                    self.assertEqual(fraction(laps_mean(book, three)), 2 - fraction(order_share(book, three)))
                self.assertEqual(fraction(laps_mean(book, (3, 1, 0, 2))), 2 - fraction(four_gap(book, (3, 1, 0, 2))))

    def test_refusals(self):
        for wrong in NOT_RINGS:
            self.assert_not_usable("leaves", laps_mean, EACH, wrong)
        self.assert_not_usable("leaves", laps_mean, SINGLE, (0,))
        wrong = NOT_NUMBERS + (5,)
        good = (("book", LOOSE), ("one", 0), ("other", 1))
        self.assert_refused_in_order(distance_mean, good, {"one": wrong, "other": wrong + (0,)})
        self.assert_exact(laps_mean(leaves=(0, 1, 2, 4), book=LOOSE), (7, 4))
        self.assert_exact(distance_mean(other=1, one=0, book=LOOSE), (2, 1))
