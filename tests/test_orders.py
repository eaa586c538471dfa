import random
from math import factorial

from tests.books import (
    EACH, LOOSE, ONE, PAIR, RING, SAMPLES, all_readings, comes, random_book, random_books, small_books, threes,
)
from tests.cases import NOT_NUMBERS, NOT_THREES, Case
from tests.test_readings import NOT_READINGS
from unsewn.counts import reading_count
from unsewn.errors import NotUsable
from unsewn.orders import in_order, order_at, order_count, order_number, order_readings
from unsewn.readings import is_reading

NOT_INDICES = NOT_NUMBERS + (2, 3)


class TestOrders(Case):
    def test_examples(self):
        told = in_order(EACH, (1, 2, 5, 4, 3, 0), (0, 1, 2)), in_order(EACH, (1, 2, 5, 4, 3, 0), (0, 3, 5))
        self.assert_exact(told, (True, False))
        self.assert_not_usable("reading", in_order, EACH, (0, 1, 2, 3, 4, 5), (0, 0, 1))
        self.assert_exact((order_count(EACH, (0, 3, 5)), order_count(RING, (0, 2, 1))), (2, 0))
        self.assert_not_usable("three", order_count, EACH, (0, True, 5))
        self.assert_exact(list(order_readings(EACH, (0, 3, 5))), [(0, 1, 4, 3, 5, 2), (0, 3, 5, 4, 1, 2)])
        self.assert_exact(order_at(EACH, (0, 3, 5), 1), (0, 3, 5, 4, 1, 2))
        self.assert_not_usable("index", order_at, RING, (0, 2, 1), 0)
        self.assert_exact(order_number(EACH, (0, 3, 5), (4, 1, 2, 0, 3, 5)), 1)
        self.assert_not_usable("reading", order_number, EACH, (0, 3, 5), (0, 1, 2, 5, 4, 3))

    def test_against_all_readings(self):
        rng = random.Random(54)
        for book in SAMPLES + tuple(small_books(3, 5)) + tuple(random_books(53, 20, 4, 7)):
            every = list(threes(book))
            for three in rng.sample(every, min(len(every), 12)):
                readings = all_readings(book, three[0])
                told = [reading for reading in readings if comes(reading, three)]
                self.assert_exact(order_count(book, three), len(told))
                self.assert_exact(list(order_readings(book, three)), told)
                for reading in readings:
                    at = rng.randrange(len(reading))
                    turned = reading[at:] + reading[:at]
                    self.assert_exact(in_order(book, turned, three), reading in told)
                    if reading not in told:
                        self.assert_not_usable("reading", order_number, book, three, turned)
                for index in rng.sample(range(len(told)), min(len(told), 6)):
                    at = rng.randrange(len(told[index]))
                    self.assert_exact(order_at(book, three, index), told[index])
                    self.assert_exact(order_number(book, three, told[index][at:] + told[index][:at]), index)
                self.assert_not_usable("index", order_at, book, three, len(told))

    def test_all_orders_of_one_word(self):
        book = (1, ((0, 0),) * 20)
        many = factorial(19) // 2
        self.assert_exact(order_count(book, (0, 1, 2)), many)
        self.assert_exact(order_at(book, (0, 1, 2), 0), tuple(range(20)))
        last = (0,) + tuple(range(19, 2, -1)) + (1, 2)
        self.assert_exact(order_at(book, (0, 1, 2), many - 1), last)
        self.assert_exact(order_number(book, (0, 1, 2), last[3:] + last[:3]), many - 1)
        self.assert_not_usable("index", order_at, book, (0, 1, 2), many)

    def test_however_many_there_are(self):
        rng = random.Random(55)
        for _ in range(12):
            book = random_book(rng, rng.randrange(2, 9), 20)
            three = tuple(rng.sample(range(20), 3))
            many = order_count(book, three)
            self.assertEqual(many + order_count(book, (three[0], three[2], three[1])), reading_count(book))
            self.assertEqual(many, order_count(book, three[1:] + three[:1]))
            ahead = ()
            for index in sorted({0, many // 3, many // 2, many - 1} - {-1}) if many else ():
                reading = order_at(book, three, index)
                self.assertTrue(is_reading(book, reading) and reading[0] == three[0] and comes(reading, three))
                self.assertTrue(ahead < reading)
                self.assert_exact(order_number(book, three, reading), index)
                ahead = reading

    def test_refusals(self):
        wrong = {"three": NOT_THREES, "index": NOT_INDICES, "reading": NOT_READINGS + ((0, 1, 2, 3, 4, 5), (0, 1, 2))}
        book, three, reading = ("book", EACH), ("three", (0, 3, 5)), ("reading", (0, 3, 5, 4, 1, 2))
        self.assert_refused_in_order(in_order, (book, reading, three), wrong)
        self.assert_refused_in_order(order_count, (book, three), wrong)
        self.assert_refused_in_order(order_at, (book, three, ("index", 0)), wrong)
        self.assert_refused_in_order(order_number, (book, three, reading), wrong)
        self.assert_refused_in_order(lambda *args: list(order_readings(*args)), (book, three), wrong)
        self.assert_not_usable("three", order_count, PAIR, (0, 1, 0))

    def test_errors_come_when_the_first_one_is_asked_for(self):
        made = order_readings(EACH, None)
        with self.assertRaises(NotUsable):
            next(made)

    def test_by_name(self):
        self.assert_exact(order_at(index=1, three=(0, 3, 5), book=EACH), (0, 3, 5, 4, 1, 2))
        self.assert_exact(order_number(reading=(0, 3, 5, 4, 1, 2), three=(0, 3, 5), book=EACH), 1)
        self.assert_exact(in_order(three=(2, 0, 1), reading=(0, 1, 2), book=RING), True)
        self.assert_exact(in_order(ONE, (0, 1, 2), (0, 2, 1)), False)
        self.assert_exact(order_count(three=(0, 1, 2), book=LOOSE), 3)
