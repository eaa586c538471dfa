import random

from tests.books import (
    EACH, LOOSE, ODD_VALUES, ONE, PAIR, RING, SAMPLES, SINGLE, all_readings, comes, has_find, plain_finds, random_book, random_books,
    small_books, threes,
)
from tests.cases import NOT_THREES, Case
from tests.test_glueing import NOT_SETS_OF_FINDS, some_sets
from unsewn.counts import reading_count
from unsewn.findcounts import count_barring, order_count_barring, order_count_with
from unsewn.glueing import count_with

BOOKS = SAMPLES + tuple(small_books(3, 4)) + tuple(random_books(56, 14, 4, 7))
NOT_BARRED = tuple(thing for thing in ODD_VALUES if thing != ()) + (
    (0, 2), [(0, 2)], ([0, 2],), ((0, 2), (0, 2)), ((0, 3), (0, 2)), ((0, True),), ((0, 4),), ((0, 2), None), ((0, 99),), ((False, 2),),
    ((4, 3), (0, 2)), ((0, 1), (0, 2), (0, 3), (1, 2), (1, 3)),
)


def with_all(readings, finds, barred):
    """The readings that have all the finds and none of the barred."""
    return [
        reading for reading in readings
        if all(has_find(reading, find) for find in finds) and not any(has_find(reading, find) for find in barred)]


class TestFindCounts(Case):
    def test_examples(self):
        self.assert_exact(order_count_with(LOOSE, ((1, 2),), (0, 1, 3)), 1)
        self.assert_exact(count_barring(RING, ((0, 1), (1, 2)), ((2, 0),)), 0)
        self.assert_exact(order_count_barring(LOOSE, (), ((1, 2),), (0, 1, 2)), 1)

    def test_edges(self):
        # Finds by which the book is torn.
        self.assert_exact(order_count_with(LOOSE, ((0, 2), (4, 3)), (0, 1, 2)), 0)
        self.assert_exact(count_barring(LOOSE, ((0, 2), (4, 3)), ((1, 2),)), 0)
        # All leaves in one row, and the find that closes the ring barred or not.
        row = ((0, 1), (1, 2))
        self.assert_exact([order_count_with(RING, row, three) for three in ((0, 1, 2), (1, 0, 2))], [1, 0])
        self.assert_exact([order_count_barring(RING, row, (), three) for three in ((0, 1, 2), (1, 0, 2))], [1, 0])
        self.assert_exact(order_count_barring(RING, row, ((2, 0),), (0, 1, 2)), 0)
        self.assert_exact((count_barring(PAIR, ((0, 1),), ((1, 0),)), count_barring(PAIR, (), ((0, 1), (1, 0)))), (0, 0))
        self.assert_exact((count_barring(SINGLE, (), ()), count_barring(ONE, (), ((0, 1),))), (1, 1))
        # A find that is barred; barred finds that do not go together; all finds barred that a leaf has.
        self.assert_exact(count_barring(LOOSE, ((1, 2),), ((1, 2), (1, 3))), 0)
        self.assert_exact(count_barring(LOOSE, (), ((1, 2), (4, 2))), 1)
        self.assert_exact(count_barring(ONE, (), ((0, 1), (0, 2))), 0)
        # Two of the three in one row, next to each other or with a leaf between.
        self.assert_exact(order_count_with(LOOSE, ((1, 2), (2, 4)), (1, 4, 3)), 1)
        self.assert_exact(order_count_with(LOOSE, ((1, 2), (2, 4)), (4, 1, 3)), 0)

    def test_orders_with_finds(self):
        rng = random.Random(57)
        for book in BOOKS:
            every = list(threes(book))
            readings = all_readings(book, 0)
            for finds in some_sets(book, rng, 3):
                told = with_all(readings, finds, ())
                for three in rng.sample(every, min(len(every), 5)):
                    self.assert_exact(order_count_with(book, finds, three), sum(comes(reading, three) for reading in told))

    def test_barring(self):
        rng = random.Random(58)
        together = {True: 0, False: 0}
        for book in BOOKS:
            finds_told = plain_finds(book)
            every = list(threes(book))
            readings = all_readings(book, 0)
            for finds in some_sets(book, rng, 2):
                for _ in range(4):
                    barred = tuple(sorted(rng.sample(finds_told, min(len(finds_told), rng.randrange(5)))))
                    together[len({e for e, _ in barred}) == len(barred)] += 1
                    told = with_all(readings, finds, barred)
                    self.assert_exact(count_barring(book, finds, barred), len(told))
                    for three in rng.sample(every, min(len(every), 2)):
                        many = sum(comes(reading, three) for reading in told)
                        self.assert_exact(order_count_barring(book, finds, barred, three), many)
        self.assertTrue(min(together.values()) > 50, together)

    def test_consequences(self):
        rng = random.Random(59)
        for _ in range(8):
            book = random_book(rng, rng.randrange(2, 11), 40)
            finds = plain_finds(book)
            for find in rng.sample(finds, 3):
                with_it = count_with(book, (find,))
                self.assertEqual(count_barring(book, (), (find,)) + with_it, reading_count(book))
                a, b, c = rng.sample(range(40), 3)
                orders = order_count_with(book, (find,), (a, b, c)), order_count_with(book, (find,), (a, c, b))
                self.assertEqual(sum(orders), with_it)
                barred = tuple(sorted(rng.sample(finds, 4)))
                orders = [order_count_barring(book, (), barred, three) for three in ((a, b, c), (a, c, b))]
                self.assertEqual(sum(orders), count_barring(book, (), barred))

    def test_refusals(self):
        wrong = {"finds": NOT_SETS_OF_FINDS, "barred": NOT_BARRED, "three": NOT_THREES}
        book, finds, barred, three = ("book", LOOSE), ("finds", ((0, 2),)), ("barred", ((1, 2),)), ("three", (0, 1, 2))
        self.assert_refused_in_order(order_count_with, (book, finds, three), wrong)
        self.assert_refused_in_order(count_barring, (book, finds, barred), wrong)
        self.assert_refused_in_order(order_count_barring, (book, finds, barred, three), wrong)
        self.assert_not_usable("finds", count_barring, RING, ((0, 1), (1, 2), (2, 0)), ())
        # A ring of finds may be barred.
        self.assert_exact(count_barring(RING, (), ((0, 1), (1, 2), (2, 0))), 0)

    def test_by_name(self):
        self.assert_exact(order_count_with(three=(0, 1, 3), finds=((1, 2),), book=LOOSE), 1)
        self.assert_exact(count_barring(barred=((1, 2),), finds=(), book=LOOSE), 2)
        self.assert_exact(order_count_barring(three=(0, 1, 2), barred=((1, 2),), finds=(), book=LOOSE), 1)
        self.assert_exact(count_barring(EACH, (), ((0, 1), (3, 0))), 1)
