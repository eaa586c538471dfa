from tests.books import (
    EACH, LOOSE, ONE, PAIR, RING, SAMPLES, SINGLE, all_readings, comes, fraction, random_books, share, small_books, threes,
)
from tests.cases import NOT_NUMBERS, NOT_THREES, Case
from unsewn.shares import before_rows, before_share, order_share


def books():
    return SAMPLES + tuple(small_books(3, 5)) + tuple(random_books(43, 25, 4, 7))


class TestShares(Case):
    def test_examples(self):
        self.assert_exact(order_share(EACH, (0, 2, 1)), (0, 1))
        self.assert_exact(order_share(EACH, (0, 1, 2)), (1, 1))
        self.assert_exact(before_share(LOOSE, 0, 1, 2), (3, 4))
        self.assert_exact(before_rows(LOOSE, 0)[1], ((0, 1), (0, 1), (3, 4), (3, 4), (1, 2)))

    def test_edges(self):
        self.assert_exact(before_rows(SINGLE, 0), (((0, 1),),))
        self.assert_exact(before_rows(PAIR, 0), (((0, 1), (1, 1)), ((0, 1), (0, 1))))
        self.assert_exact(before_rows(PAIR, 1), (((0, 1), (0, 1)), ((1, 1), (0, 1))))
        self.assert_exact(order_share(ONE, (2, 0, 1)), (1, 2))
        self.assert_exact(order_share(RING, (2, 0, 1)), (1, 1))

    def test_orders_against_all_readings(self):
        for book in books():
            readings = all_readings(book, 0)
            for three in threes(book):
                told = sum(comes(reading, three) for reading in readings)
                self.assert_exact(order_share(book, three), share(told, len(readings)))

    def test_before_against_all_readings(self):
        for book in books():
            many = len(book[1])
            for cover in range(many):
                readings = all_readings(book, cover)
                rows = before_rows(book, cover)
                told = tuple(tuple(
                    share(sum(reading.index(e) < reading.index(f) for reading in readings), len(readings))
                    for f in range(many)) for e in range(many))
                self.assert_exact(rows, told)
                for e in range(many):
                    for f in range(many):
                        if len({e, f, cover}) == 3:
                            self.assert_exact(before_share(book, cover, e, f), told[e][f])

    def test_consequences_for_large_books(self):
        for book in random_books(44, 8, 10, 40):
            many = len(book[1])
            for three in list(threes(book))[::997]:
                a, b, c = three
                there = fraction(order_share(book, three))
                self.assertEqual(there + fraction(order_share(book, (a, c, b))), 1)
                self.assertEqual(there, fraction(order_share(book, (b, c, a))))
                self.assertTrue(0 <= there <= 1)
            rows = before_rows(book, 0)
            for e in range(1, many):
                for f in range(1, e):
                    self.assertEqual(fraction(rows[e][f]) + fraction(rows[f][e]), 1)

    def test_refusals(self):
        self.assert_refused_in_order(order_share, (("book", EACH), ("three", (0, 1, 2))), {"three": NOT_THREES})
        self.assert_not_usable("three", order_share, PAIR, (0, 1, 1))
        wrong = NOT_NUMBERS + (5,)
        good = (("book", LOOSE), ("cover", 0), ("one", 1), ("other", 2))
        self.assert_refused_in_order(before_share, good, {
            "cover": wrong, "one": wrong + (0,), "other": wrong + (0, 1),
        })
        self.assert_refused_in_order(before_rows, good[:2], {"cover": wrong})
        self.assert_not_usable("one", before_share, LOOSE, 2, 2, 2)
        self.assert_not_usable("other", before_share, PAIR, 0, 1, 1)

    def test_by_name(self):
        self.assert_exact(before_share(other=2, one=1, cover=0, book=LOOSE), (3, 4))
        self.assert_exact(order_share(three=(0, 1, 2), book=EACH), (1, 1))
