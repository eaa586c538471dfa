from itertools import combinations

from tests.books import (
    EACH, LOOSE, ODD_VALUES, ONE, PAIR, RING, SAMPLES, SINGLE, all_readings, random_books, small_books, small_heaps,
)
from tests.cases import NOT_LOTS, NOT_NUMBERS, Case
from tests.test_heapchecker import NOT_HEAPS
from unsewn.counts import reading_count
from unsewn.heapcounts import loops_of
from unsewn.kinds import is_book
from unsewn.makings import home_of, hung, joined, parted, put_together

HEAPS = SAMPLES + ((1, ()), (3, ()), (3, ((0, 2),)), (4, ((3, 1), (1, 3), (2, 0), (2, 2))))


def parts_of(size):
    """All lots but () and all words."""
    return [lot for many in range(1, size) for lot in combinations(range(size), many)]


def plain_homes(size, lot):
    homes = {}
    told = []
    for word in range(size):
        key = "lot" if word in lot else word
        homes.setdefault(key, len(homes))
        told.append(homes[key])
    return tuple(told)


class TestMakings(Case):
    def test_examples(self):
        self.assert_exact(hung(RING, 1), (3, ((0, 1), (1, 2), (2, 0), (1, 1))))
        self.assert_exact(parted(RING, 1), (4, ((0, 1), (1, 3), (2, 0), (3, 2))))
        self.assert_exact(joined(PAIR, (2, ((1, 0), (0, 1)))), (3, ((0, 1), (1, 0), (2, 0), (0, 2))))

    def test_edges(self):
        self.assert_exact(hung((1, ()), 0), (1, ((0, 0),)))
        self.assert_exact(parted(SINGLE, 0), (2, ((0, 1), (1, 0))))
        self.assert_exact(parted(LOOSE, 4), (3, ((1, 0), (0, 0), (0, 1), (0, 1), (1, 2), (2, 0))))
        self.assert_exact(joined((1, ()), (1, ())), (1, ()))
        self.assert_exact(joined((2, ()), (3, ((2, 1), (0, 2)))), (4, ((3, 2), (0, 3))))
        self.assert_exact(joined(ONE, SINGLE), (1, ((0, 0),) * 4))
        self.assert_exact(joined(SINGLE, RING), (3, ((0, 0), (0, 1), (1, 2), (2, 0))))

    def test_by_definition(self):
        for heap in HEAPS:
            size, leaves = heap
            for word in range(size):
                self.assert_exact(hung(heap, word), (size, leaves + ((word, word),)))
            for leaf, (first, catchword) in enumerate(leaves):
                told = list(leaves) + [(size, catchword)]
                told[leaf] = (first, size)
                self.assert_exact(parted(heap, leaf), (size + 1, tuple(told)))
            for other in HEAPS:
                names = {0: 0}
                names.update({word: word - 1 + size for word in range(1, other[0])})
                told = leaves + tuple((names[x], names[y]) for x, y in other[1])
                self.assert_exact(joined(heap, other), (size + other[0] - 1, told))

    def test_books_stay_books(self):
        for book in SAMPLES + tuple(random_books(18, 10, 6, 12)):
            for word in range(book[0]):
                self.assertTrue(is_book(hung(book, word)))
            for leaf in range(len(book[1])):
                self.assertTrue(is_book(parted(book, leaf)))
                self.assertEqual(reading_count(parted(book, leaf)), reading_count(book))
            for other in SAMPLES:
                self.assertTrue(is_book(joined(book, other)) and is_book(joined(other, book)))

    def test_readings_of_a_book_with_a_loop_more(self):
        # A loop more goes behind any leaf that ends in its word.
        for book in (RING, EACH, LOOSE, ONE, PAIR) + tuple(random_books(19, 5, 3, 5)):
            for word in range(book[0]):
                fan = sum(leaf[0] == word for leaf in book[1])
                self.assertEqual(len(all_readings(hung(book, word), 0)), fan * len(all_readings(book, 0)))

    def test_refusals(self):
        self.assert_refused_in_order(hung, (("heap", RING), ("word", 0)), {"word": NOT_NUMBERS + (3,)})
        self.assert_refused_in_order(parted, (("heap", RING), ("leaf", 0)), {"leaf": NOT_NUMBERS + (3,)})
        self.assert_not_usable("leaf", parted, (1, ()), 0)
        self.assert_refused_in_order(joined, (("heap", RING), ("other", PAIR)), {"other": NOT_HEAPS})
        self.assert_exact(hung(word=1, heap=RING), hung(RING, 1))
        self.assert_exact(parted(leaf=1, heap=RING), parted(RING, 1))
        self.assert_exact(joined(other=RING, heap=PAIR), joined(PAIR, RING))


class TestPuttingTogether(Case):
    def test_examples(self):
        told = home_of(EACH, (0, 2)), put_together(EACH, (0, 2))
        self.assert_exact(told, ((0, 1, 0), (2, ((0, 1), (1, 0), (1, 0), (0, 1)))))

    def test_edges(self):
        # A lot of one word stays as it is, and the numbers too.
        for word in range(3):
            self.assert_exact((home_of(EACH, (word,)), put_together(EACH, (word,))), ((0, 1, 2), EACH))
        heap = (4, ((0, 0), (1, 1), (1, 2), (2, 1), (3, 2)))
        self.assert_exact(put_together(heap, (1, 3)), (3, ((0, 0), (1, 2), (2, 1), (1, 2))))
        self.assert_exact(home_of(heap, (1, 3)), (0, 1, 2, 1))
        self.assert_exact((home_of(heap, (0, 1, 2)), put_together(heap, (0, 1, 2))), ((0, 0, 0, 1), (2, ((1, 0),))))
        self.assert_exact(home_of((10, ()), (2, 5, 9)), (0, 1, 2, 3, 4, 2, 5, 6, 7, 2))

    def test_by_definition(self):
        for heap in HEAPS + tuple(small_heaps(3, 2)) + tuple(random_books(20, 10, 6, 12)):
            size, leaves = heap
            for lot in parts_of(size):
                homes = plain_homes(size, lot)
                told = tuple((homes[x], homes[y]) for x, y in leaves if not (x in lot and y in lot))
                self.assert_exact(home_of(heap, lot), homes)
                self.assert_exact(put_together(heap, lot), (size - len(lot) + 1, told))

    def test_consequences(self):
        for book in SAMPLES + tuple(small_books(3, 5)):
            for lot in parts_of(book[0]):
                made = put_together(book, lot)
                self.assertTrue(is_book(made))
                outside = [leaf for leaf in loops_of(book) if book[1][leaf][0] not in lot]
                self.assertEqual(len(loops_of(made)), len(outside))

    def test_refusals(self):
        wrong = {"lot": NOT_LOTS + ODD_VALUES + ((3,), (0, 3), (), (0, 1, 2))}
        for call in (home_of, put_together):
            self.assert_refused_in_order(call, (("heap", RING), ("lot", (0,))), wrong)
            self.assert_not_usable("lot", call, ONE, (0,))
            self.assert_not_usable("lot", call, ONE, ())
            self.assert_exact(call(lot=(0, 2), heap=EACH), call(EACH, (0, 2)))
