from itertools import islice, permutations
from math import factorial

from tests.books import (
    EACH, LOOSE, ODD_VALUES, ONE, PAIR, RING, SAMPLES, SINGLE, all_pairings_plainly, all_readings, random_books,
    rolls_plainly, small_books,
)
from tests.cases import NOT_NUMBERS, Case
from tests.test_readings import NOT_READINGS
from unsewn.counts import reading_count
from unsewn.heapcounts import fan_of
from unsewn.pairings import all_pairings, is_pairing, pairing_of, reading_from, roll_table, rolls_of

NOT_PAIRINGS = ODD_VALUES + (
    (0, 1, 2), (2, 0, 1), (1, 2), (1, 2, 0, 3), [1, 2, 0], (True, 2, 0), (1, 2, False), (1, 1, 0), (1, 2, None), (1, 2, "0"),
    (1, 2, -3), ((1, 2, 0),), (1, 2, 3),
)
BOOKS = SAMPLES + tuple(small_books(3, 5)) + tuple(random_books(23, 20, 4, 7))


class TestPairings(Case):
    def test_examples(self):
        self.assert_exact(rolls_of(ONE, (1, 0, 2)), ((0, 1), (2,)))
        self.assert_exact(pairing_of(EACH, (0, 1, 2, 5, 4, 3)), (1, 2, 5, 0, 3, 4))
        self.assert_exact(reading_from(RING, (1, 2, 0), 2), (2, 0, 1))
        self.assert_exact(roll_table(EACH), (3, 4, 1))

    def test_edges(self):
        self.assert_exact((list(all_pairings(SINGLE)), roll_table(SINGLE)), ([(0,)], (1,)))
        self.assert_exact((list(all_pairings(RING)), roll_table(RING)), ([(1, 2, 0)], (1,)))
        self.assert_exact((list(all_pairings(PAIR)), roll_table(PAIR)), ([(1, 0)], (1,)))
        self.assert_exact(list(all_pairings(ONE)), list(permutations(range(3))))
        self.assert_exact(roll_table(ONE), (2, 3, 1))
        self.assert_exact((rolls_of(ONE, (0, 1, 2)), rolls_of(ONE, (2, 0, 1))), (((0,), (1,), (2,)), ((0, 2, 1),)))
        self.assert_exact((rolls_of(SINGLE, (0,)), pairing_of(SINGLE, (0,)), reading_from(SINGLE, (0,), 0)), (((0,),), (0,), (0,)))
        self.assert_exact((reading_from(ONE, (1, 0, 2), 2), reading_from(ONE, (0, 1, 2), 0)), (None, None))

    def test_against_all_orders(self):
        for book in BOOKS:
            told = all_pairings_plainly(book)
            self.assert_exact(list(all_pairings(book)), told)
            table = [0] * len(book[1])
            for pairing in told:
                rolls = rolls_plainly(pairing)
                self.assert_exact(rolls_of(book, pairing), rolls)
                table[len(rolls) - 1] += 1
                for first in range(len(book[1])):
                    reading = [first]
                    while pairing[reading[-1]] != first:
                        reading.append(pairing[reading[-1]])
                    whole = len(reading) == len(book[1])
                    self.assert_exact(reading_from(book, pairing, first), tuple(reading) if whole else None)
            while table[-1] == 0:
                table.pop()
            self.assert_exact(roll_table(book), tuple(table))

    def test_which_are_pairings(self):
        for book in (RING, LOOSE, ONE, PAIR, SINGLE, (2, ((0, 0), (0, 1), (1, 0), (1, 1)))):
            told = all_pairings_plainly(book)
            for thing in permutations(range(len(book[1]))):
                self.assert_exact(is_pairing(book, thing), thing in told)
        for thing in NOT_PAIRINGS:
            self.assert_exact(is_pairing(RING, thing), False, thing)
        # No leaf may be given to two.
        self.assert_exact((is_pairing(ONE, (0, 0, 1)), is_pairing(ONE, (0, 1, 1)), is_pairing(EACH, (1, 2, 0, 0, 3, 4))), (False,) * 3)
        self.assert_exact(is_pairing(thing=(1, 2, 0), book=RING), True)

    def test_consequences(self):
        for book in BOOKS:
            for reading in all_readings(book, 0):
                pairing = pairing_of(book, reading)
                self.assert_exact(is_pairing(book, pairing), True)
                self.assert_exact(rolls_of(book, pairing), (reading,))
                for at, first in enumerate(reading):
                    turned = reading[at:] + reading[:at]
                    self.assert_exact(pairing_of(book, turned), pairing)
                    self.assert_exact(reading_from(book, pairing, first), turned)
            table = roll_table(book)
            many = 1
            for word in range(book[0]):
                many *= factorial(fan_of(book, word))
            self.assertEqual((sum(table), table[0], table[-1] > 0), (many, reading_count(book), True))

    def test_larger_books(self):
        book = (1, ((0, 0),) * 6)
        self.assert_exact(roll_table(book), (120, 274, 225, 85, 15, 1))
        seen = 0
        for book in random_books(24, 60, 10, 20):
            many = 1
            for word in range(book[0]):
                many *= factorial(fan_of(book, word))
            if 100 < many <= 2000:
                seen += 1
                pairings = list(all_pairings(book))
                self.assertEqual((len(pairings), pairings), (many, sorted(set(pairings))))
                self.assertTrue(all(is_pairing(book, pairing) for pairing in pairings))
                table = roll_table(book)
                self.assertEqual((sum(table), table[0]), (many, reading_count(book)))
        self.assertTrue(seen > 5, seen)

    def test_one_by_one(self):
        book = (1, ((0, 0),) * 40)
        told = list(islice(all_pairings(book), 3))
        ahead = tuple(range(37))
        self.assert_exact(told, [ahead + (37, 38, 39), ahead + (37, 39, 38), ahead + (38, 37, 39)])

    def test_refusals(self):
        pairing = ("pairing", (1, 2, 0))
        wrong = {"pairing": NOT_PAIRINGS, "first": NOT_NUMBERS + (3,), "reading": NOT_READINGS}
        self.assert_refused_in_order(rolls_of, (("book", RING), pairing), wrong)
        self.assert_refused_in_order(reading_from, (("book", RING), pairing, ("first", 0)), wrong)
        self.assert_refused_in_order(pairing_of, (("book", RING), ("reading", (0, 1, 2))), wrong)
        self.assert_not_usable("first", reading_from, ONE, (0, 1, 2), 3)
        self.assert_exact(rolls_of(pairing=(1, 2, 0), book=RING), ((0, 1, 2),))
        self.assert_exact(reading_from(first=1, pairing=(1, 2, 0), book=RING), (1, 2, 0))
        self.assert_exact(pairing_of(reading=(2, 0, 1), book=RING), (1, 2, 0))
        self.assert_exact((list(all_pairings(book=RING)), roll_table(book=RING)), ([(1, 2, 0)], (1,)))
