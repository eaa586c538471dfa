from itertools import permutations

from tests.books import EACH, LOOSE, ODD_VALUES, ONE, PAIR, RING, SAMPLES, SINGLE, all_readings, random_books, small_books
from tests.cases import NOT_NUMBERS, Case
from unsewn.counts import reading_count
from unsewn.errors import NotUsable
from unsewn.readings import is_reading, readings_of, started_at

NOT_READINGS = ODD_VALUES + (
    (0, 1), (1, 0, 2), (2, 1, 0), (0, 1, 2, 0), (0, 1, 1), [0, 1, 2], (False, 1, 2), (0, True, 2), (0, 1, "2"), (0, 1, None),
    (0, 1, 3), ((0, 1, 2),),
)


class TestReadings(Case):
    def test_examples(self):
        told = [(0, 1, 2, 5, 4, 3), (0, 1, 4, 3, 5, 2), (0, 3, 5, 4, 1, 2)]
        self.assert_exact(list(readings_of(EACH, 0)), told)

    def test_edges(self):
        self.assert_exact(list(readings_of(SINGLE, 0)), [(0,)])
        self.assert_exact(list(readings_of(PAIR, 1)), [(1, 0)])
        self.assert_exact(list(readings_of(RING, 2)), [(2, 0, 1)])
        self.assert_exact(list(readings_of(ONE, 1)), [(1, 0, 2), (1, 2, 0)])

    def test_against_laying_leaf_behind_leaf(self):
        for book in SAMPLES + tuple(small_books(3, 6)) + tuple(random_books(25, 25, 6, 8)):
            for first in range(len(book[1])):
                self.assert_exact(list(readings_of(book, first)), all_readings(book, first))

    def test_large_books_have_as_many_as_they_count(self):
        seen = 0
        for book in random_books(26, 400, 10, 24):
            many = reading_count(book)
            if 100 < many <= 2000 and seen < 12:
                seen += 1
                readings = list(readings_of(book, 0))
                self.assertEqual((len(readings), len(set(readings)), readings), (many, many, sorted(readings)))
                self.assertTrue(all(is_reading(book, reading) and reading[0] == 0 for reading in readings))
        self.assertEqual(seen, 12)

    def test_one_by_one(self):
        for book in ((1, ((0, 0),) * 40), (2, ((0, 1), (1, 0)) * 20)):
            for at, reading in enumerate(readings_of(book, 0)):
                self.assertTrue(is_reading(book, reading))
                if at == 3:
                    break

    def test_which_are_readings(self):
        for book in (RING, EACH[:1] + (EACH[1][:3],), LOOSE, ONE, PAIR, SINGLE):
            told = [reading for first in range(len(book[1])) for reading in all_readings(book, first)]
            for thing in permutations(range(len(book[1]))):
                self.assert_exact(is_reading(book, thing), thing in told)
        for thing in NOT_READINGS:
            self.assert_exact(is_reading(RING, thing), False, thing)
        self.assert_exact((is_reading(SINGLE, (0,)), is_reading(SINGLE, (False,)), is_reading(SINGLE, ())), (True, False, False))

    def test_started_at(self):
        for book in SAMPLES:
            for first in range(len(book[1])):
                for reading in all_readings(book, 0):
                    at = reading.index(first)
                    self.assert_exact(started_at(book, reading, first), reading[at:] + reading[:at])
                    self.assertIn(started_at(book, reading, first), all_readings(book, first))
        self.assert_exact(started_at(first=1, reading=(2, 0, 1), book=RING), (1, 2, 0))

    def test_refusals(self):
        good = (("book", RING), ("reading", (0, 1, 2)), ("first", 1))
        self.assert_refused_in_order(started_at, good, {"reading": NOT_READINGS, "first": NOT_NUMBERS + (3,)})
        for wrong in NOT_NUMBERS + (3,):
            self.assert_not_usable("first", lambda book, first: list(readings_of(book, first)), RING, wrong)

    def test_errors_come_when_the_first_one_is_asked_for(self):
        made = readings_of(RING, None)
        with self.assertRaises(NotUsable):
            next(made)
