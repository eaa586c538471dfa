import random
from itertools import combinations

from tests.books import EACH, LOOSE, ONE, RING, random_book, random_books, small_books, threes
from tests.cases import NOT_LOTS, NOT_THREES, Case
from tests.test_heaplots import all_lots, hangs_plainly
from unsewn.cutting import cut_book
from unsewn.shrinking import may_shrink, shrunk

BOOKS = (RING, EACH, LOOSE, ONE) + tuple(small_books(2, 5)) + tuple(random_books(68, 10, 4, 7))


def shrinks_plainly(cut, lot):
    if len(lot) < 2 or len(lot) == cut[0]:
        return False
    gates = sum(first in lot and catchword not in lot for first, catchword in cut[1])
    ends = sum(word in lot for word in range(cut[0] - 3, cut[0]))
    return hangs_plainly(cut, lot) and ((gates == 1 and ends <= 1) or (gates == 2 and ends == 0))


class TestShrinking(Case):
    def test_examples(self):
        told = (may_shrink(RING, (0, 1, 2), (0, 3)), may_shrink(RING, (0, 1, 2), (0, 1)))
        self.assert_exact(told, (True, False))

    def test_edges(self):
        for lot, told in (((), False), ((0,), False), ((0, 3, 4), False), ((0, 1, 2, 3, 4, 5), False), ((0, 5), True)):
            self.assert_exact(may_shrink(RING, (0, 1, 2), lot), told)
        # Two gates, but not hanging together; two gates, but with one of the three; three gates.
        two = (2, ((0, 0), (0, 1), (1, 0), (1, 1), (1, 1)))
        self.assert_exact(may_shrink(two, (0, 3, 4), (0, 1)), False)
        chain = (4, ((0, 1), (1, 2), (2, 3), (3, 0), (0, 1), (1, 2), (2, 3), (3, 0)))
        for lot, told in (((0, 1), True), ((0, 2), False), ((0, 1, 2), True), ((0, 4), False)):
            self.assert_exact(may_shrink(chain, (3, 7, 6), lot), told)

    def test_all_lots(self):
        rng = random.Random(69)
        for book in BOOKS:
            for three in rng.sample(list(threes(book)), 1) if len(book[1]) > 2 else ():
                cut = cut_book(book, three)
                for lot in all_lots(cut[0]):
                    self.assert_exact(may_shrink(book, three, lot), shrinks_plainly(cut, lot))

    def check_shrunk(self, book, three):
        cut = cut_book(book, three)
        lots = shrunk(book, three)
        self.assertIs(lots.__class__, tuple)
        self.assertEqual(list(lots), sorted(set(lots)))
        self.assertEqual(sorted(word for lot in lots for word in lot), list(range(cut[0])))
        for lot in lots:
            self.assertEqual((lot.__class__, lot), (tuple, tuple(sorted(lot))))
            self.assertTrue(len(lot) == 1 or shrinks_plainly(cut, lot))
        for many in range(2, len(lots) + 1):
            for chosen in combinations(lots, many):
                self.assertFalse(shrinks_plainly(cut, tuple(sorted(word for lot in chosen for word in lot))))

    def test_shrunk(self):
        rng = random.Random(70)
        for book in BOOKS:
            every = list(threes(book))
            for three in rng.sample(every, min(len(every), 2)):
                self.check_shrunk(book, three)

    def test_eight_words(self):
        rng = random.Random(71)
        for _ in range(4):
            book = random_book(rng, 8, rng.randrange(8, 21))
            self.check_shrunk(book, tuple(rng.sample(range(len(book[1])), 3)))

    def test_refusals(self):
        good = (("book", RING), ("three", (0, 1, 2)), ("lot", (0, 3)))
        wrong = {"three": NOT_THREES, "lot": NOT_LOTS + ((6,), (0, 6))}
        self.assert_refused_in_order(may_shrink, good, wrong)
        self.assert_refused_in_order(shrunk, good[:2], wrong)
        self.assert_exact(may_shrink(lot=(0, 3), three=(0, 1, 2), book=RING), True)
