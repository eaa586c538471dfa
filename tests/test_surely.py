import random
from itertools import permutations

from tests.books import (
    EACH, LOOSE, ONE, PAIR, RING, SAMPLES, SINGLE, all_readings, comes, random_book, random_books, small_books, threes,
)
from tests.cases import NOT_NUMBERS, NOT_THREES, NOT_TUPLES, Case
from unsewn.orders import order_count
from unsewn.readings import is_reading
from unsewn.surely import is_sure, open_pairs, open_readings, sure_before, sure_pairs, sure_ring

FOUR = (4, ((0, 1), (1, 2), (2, 3), (3, 0)))
BOOKS = SAMPLES + (FOUR,) + tuple(small_books(3, 5)) + tuple(random_books(59, 25, 5, 7))
NOT_RINGS = NOT_TUPLES + (
    (), (0,), (0, 0), (0, 1, 0), (0, True), (False, 1), (0, 99), (-1, 0), (0, None), (0, "1"), ([0], 1), (0, 1, 1),
    (0, 1, 2, 3, 4, 5, 0), (0, 1, 2, 3, 4, 5, 6),
)


class TestSure(Case):
    def test_examples(self):
        self.assert_exact((is_sure(EACH, (0, 1, 2)), is_sure(EACH, (0, 3, 5))), (True, False))
        self.assert_exact((sure_ring(FOUR, (0, 1, 2, 3)), sure_ring(EACH, (0, 1, 2, 3))), (True, False))
        told = (sure_before(EACH, 0, 1, 2), sure_before(EACH, 0, 2, 1), sure_before(EACH, 0, 0, 3))
        self.assert_exact(told, (True, False, True))
        told = (sure_pairs(EACH, 0), sure_pairs(LOOSE, 0), sure_pairs((1, ((0, 0),)), 0))
        self.assert_exact(told, (((1, 2),), (), ()))
        self.assert_exact(open_pairs(LOOSE, 0), ((1, 2), (1, 3), (1, 4), (2, 3), (2, 4), (3, 4)))
        told = (open_readings(ONE, 0, 1, 2), open_readings(EACH, 0, 2, 1))
        self.assertIn(told[0], (((0, 1, 2), (0, 2, 1)),))
        self.assert_exact(told[1], None)

    def test_edges(self):
        self.assert_exact((sure_pairs(SINGLE, 0), open_pairs(SINGLE, 0), open_readings(SINGLE, 0, 0, 0)), ((), (), None))
        self.assert_exact((sure_pairs(PAIR, 1), open_pairs(PAIR, 1), sure_ring(PAIR, (1, 0))), ((), (), True))
        self.assert_exact((sure_pairs(RING, 1), open_pairs(RING, 1)), (((2, 0),), ()))
        for leaf in range(6):
            self.assert_exact((sure_before(EACH, 0, leaf, leaf), sure_before(EACH, 0, leaf, 0)), (False, False))
            self.assert_exact(sure_before(EACH, 0, 0, leaf), leaf != 0)
            for one, other in ((leaf, leaf), (0, leaf), (leaf, 0)):
                self.assert_exact(open_readings(EACH, 0, one, other), None)

    def test_against_all_readings(self):
        for book in BOOKS:
            for three in threes(book):
                told = all(comes(reading, three) for reading in all_readings(book, three[0]))
                self.assert_exact(is_sure(book, three), told)
                self.assertEqual(told, order_count(book, (three[0], three[2], three[1])) == 0)

    def test_pairs_against_all_readings(self):
        for book in BOOKS:
            many = len(book[1])
            for cover in range(many):
                readings = all_readings(book, cover)
                sure = [
                    (e, f) for e in range(many) for f in range(many)
                    if e != f and all(reading.index(e) < reading.index(f) for reading in readings)]
                for e in range(many):
                    for f in range(many):
                        self.assert_exact(sure_before(book, cover, e, f), (e, f) in sure)
                apart = [pair for pair in sure if cover not in pair]
                self.assert_exact(sure_pairs(book, cover), tuple(apart))
                self.assert_exact(open_pairs(book, cover), tuple(
                    (e, f) for e in range(many) for f in range(e + 1, many)
                    if cover not in (e, f) and (e, f) not in apart and (f, e) not in apart))

    def test_rings_against_all_readings(self):
        rng = random.Random(60)
        for book in BOOKS:
            many = len(book[1])
            for length in range(2, min(many, 5) + 1):
                rings = list(permutations(range(many), length))
                for ring in rng.sample(rings, min(len(rings), 12)):
                    readings = all_readings(book, ring[0])
                    told = all(
                        reading.index(ring[at]) < reading.index(ring[at + 1])
                        for reading in readings for at in range(length - 1))
                    self.assert_exact(sure_ring(book, ring), told)

    def check_open(self, book, cover, one, other, pair):
        self.assertEqual((pair.__class__, len(pair)), (tuple, 2))
        for reading, ahead in zip(pair, (True, False)):
            self.assertTrue(is_reading(book, reading) and reading[0] == cover)
            self.assertEqual(reading.index(one) < reading.index(other), ahead)

    def test_open_readings(self):
        for book in BOOKS[::3]:
            many = len(book[1])
            for cover in range(min(many, 2)):
                opened = open_pairs(book, cover)
                for one in range(many):
                    for other in range(many):
                        pair = open_readings(book, cover, one, other)
                        told = (min(one, other), max(one, other)) in opened
                        self.assertEqual(pair is not None, told)
                        if told:
                            self.check_open(book, cover, one, other, pair)

    def test_twenty_leaves(self):
        rng = random.Random(61)
        for _ in range(6):
            book = random_book(rng, rng.randrange(1, 11), 20)
            opened = open_pairs(book, 3)
            self.assertTrue(opened)
            one, other = opened[rng.randrange(len(opened))]
            self.check_open(book, 3, other, one, open_readings(book, 3, other, one))

    def test_refusals(self):
        wrong = NOT_NUMBERS + (6,)
        numbers = {"cover": wrong, "one": wrong, "other": wrong}
        good = (("book", EACH), ("cover", 0), ("one", 1), ("other", 2))
        self.assert_refused_in_order(sure_before, good, numbers)
        self.assert_refused_in_order(open_readings, good, numbers)
        self.assert_refused_in_order(sure_pairs, good[:2], numbers)
        self.assert_refused_in_order(open_pairs, good[:2], numbers)
        self.assert_refused_in_order(is_sure, (("book", EACH), ("three", (0, 1, 2))), {"three": NOT_THREES})
        for leaves in NOT_RINGS:
            self.assert_not_usable("leaves", sure_ring, EACH, leaves)

    def test_by_name(self):
        self.assert_exact(sure_before(other=2, one=1, cover=0, book=EACH), True)
        self.assert_exact(sure_ring(leaves=(0, 1, 2), book=RING), True)
        self.assert_exact(open_readings(other=1, one=2, cover=0, book=EACH), None)
