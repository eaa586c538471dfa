import random
from math import factorial

from tests.books import EACH, LOOSE, ONE, PAIR, RING, SAMPLES, SINGLE, all_readings, random_book, random_books, small_books
from tests.cases import NOT_NUMBERS, Case
from tests.test_readings import NOT_READINGS
from unsewn.counts import reading_count
from unsewn.numbering import number_of, reading_at
from unsewn.readings import is_reading


class TestNumbering(Case):
    def test_examples(self):
        self.assert_exact(reading_at(EACH, 0, 2), (0, 3, 5, 4, 1, 2))
        self.assert_exact(number_of(LOOSE, (0, 2, 4, 1, 3)), 2)

    def test_edges(self):
        self.assert_exact((reading_at(SINGLE, 0, 0), number_of(SINGLE, (0,))), ((0,), 0))
        self.assert_exact((reading_at(RING, 2, 0), number_of(RING, (1, 2, 0))), ((2, 0, 1), 0))
        self.assert_exact((reading_at(ONE, 1, 1), number_of(ONE, (1, 0, 2))), ((1, 2, 0), 0))

    def test_against_all_readings(self):
        for book in SAMPLES + tuple(small_books(3, 5)) + tuple(random_books(97, 20, 5, 7)):
            for first in range(len(book[1])):
                readings = all_readings(book, first)
                for index, reading in list(enumerate(readings))[:60]:
                    self.assert_exact(reading_at(book, first, index), reading)
                    self.assert_exact(number_of(book, reading), index)
                self.assert_not_usable("index", reading_at, book, first, len(readings))

    def test_all_orders_of_one_word(self):
        book = (1, ((0, 0),) * 20)
        many = factorial(19)
        self.assert_exact(reading_at(book, 5, 0), (5,) + tuple(leaf for leaf in range(20) if leaf != 5))
        self.assert_exact(reading_at(book, 0, many - 1), (0,) + tuple(range(19, 0, -1)))
        self.assert_exact(number_of(book, (0,) + tuple(range(19, 0, -1))), many - 1)
        self.assert_not_usable("index", reading_at, book, 0, many)

    def test_however_many_there_are(self):
        rng = random.Random(98)
        for _ in range(12):
            book = random_book(rng, rng.randrange(2, 11), 20)
            many = reading_count(book)
            first = rng.randrange(20)
            ahead = ()
            for index in sorted({0, many // 7, many // 3, many // 2, many - 1}):
                reading = reading_at(book, first, index)
                self.assertTrue(is_reading(book, reading) and reading[0] == first and ahead < reading)
                self.assert_exact(number_of(book, reading), index)
                ahead = reading
            self.assert_not_usable("index", reading_at, book, first, many)

    def test_refusals(self):
        good = (("book", EACH), ("first", 0), ("index", 0))
        self.assert_refused_in_order(reading_at, good, {"first": NOT_NUMBERS + (6,), "index": NOT_NUMBERS + (3,)})
        wrong = {"reading": NOT_READINGS + ((0, 1, 2), (0, 1, 2, 3, 4, 5))}
        self.assert_refused_in_order(number_of, (("book", EACH), ("reading", (0, 1, 2, 5, 4, 3))), wrong)
        self.assert_exact(reading_at(index=0, first=1, book=PAIR), (1, 0))
        self.assert_exact(number_of(reading=(1, 0), book=PAIR), 0)
