from itertools import combinations

from tests.books import (
    EACH, LOOSE, ODD_VALUES, ONE, PAIR, RING, SAMPLES, all_readings, is_book_plainly, random_books, small_books,
)
from tests.cases import NOT_LOTS, Case
from unsewn.counts import reading_count
from unsewn.halving import halves_of
from unsewn.heaplots import gates_of
from unsewn.makings import put_together

LOOP = (2, ((1, 0), (0, 0), (0, 1)))


def lots_with_one_gate(book):
    size = book[0]
    lots = [lot for many in range(1, size) for lot in combinations(range(size), many)]
    return [lot for lot in lots if gates_of(book, lot) == 1]


class TestHalving(Case):
    def test_examples(self):
        self.assert_exact(halves_of(LOOP, (0,)), ((1, ((0, 0), (0, 0))), (2, ((1, 0), (0, 1)))))

    def test_edges(self):
        self.assert_exact(halves_of(LOOP, (1,)), ((1, ((0, 0),)), LOOP))
        self.assert_exact(halves_of(RING, (0, 2)), ((2, ((1, 0), (0, 1))), (2, ((0, 1), (1, 0)))))
        self.assert_exact(halves_of(RING, (1, 2)), ((2, ((0, 1), (1, 0))), (2, ((0, 1), (1, 0)))))
        # The leaf that leaves ends in another word than that with which the one that enters begins.
        book = (4, ((0, 2), (2, 1), (1, 3), (3, 0), (0, 2), (2, 0)))
        self.assert_exact(halves_of(book, (0, 2)), ((2, ((0, 1), (0, 1), (1, 0), (1, 0))), (3, ((0, 1), (1, 2), (2, 0)))))

    def test_both_halves_are_books(self):
        seen = 0
        for book in SAMPLES + tuple(small_books(3, 5)) + tuple(random_books(20, 60, 5, 8)):
            size, leaves = book
            for lot in lots_with_one_gate(book):
                seen += 1
                inner, outer = halves_of(book, lot)
                self.assert_exact(outer, put_together(book, lot))
                inside = [leaf for leaf in leaves if leaf[0] in lot and leaf[1] in lot]
                out = [leaf for leaf in leaves if leaf[0] in lot and leaf[1] not in lot]
                back = [leaf for leaf in leaves if leaf[0] not in lot and leaf[1] in lot]
                names = {word: at for at, word in enumerate(lot)}
                told = tuple((names[x], names[y]) for x, y in inside + [(out[0][0], back[0][1])])
                self.assert_exact(inner, (len(lot), told))
                self.assertTrue(is_book_plainly(inner) and is_book_plainly(outer))
                self.assertEqual(reading_count(inner) * reading_count(outer), len(all_readings(book, 0)))
        self.assertTrue(seen > 100, seen)

    def test_each_reading_passes_the_lot_in_one_stretch(self):
        for book in SAMPLES + tuple(random_books(21, 20, 4, 7)):
            for lot in lots_with_one_gate(book):
                for reading in all_readings(book, 0):
                    inside = [book[1][leaf][0] in lot for leaf in reading]
                    self.assertEqual(sum(inside[at - 1] != inside[at] for at in range(len(inside))), 2)

    def test_refusals(self):
        wrong = {"lot": NOT_LOTS + ODD_VALUES + ((3,), (), (0, 1, 2))}
        self.assert_refused_in_order(halves_of, (("book", RING), ("lot", (0,))), wrong)
        for lot in ((0,), (1,), (2,), (0, 1), (0, 2), (1, 2)):
            self.assert_not_usable("lot", halves_of, EACH, lot)
        self.assert_not_usable("lot", halves_of, LOOSE, (0,))
        self.assert_not_usable("lot", halves_of, ONE, (0,))
        self.assert_exact(halves_of(lot=(1,), book=PAIR), ((1, ((0, 0),)), PAIR))
