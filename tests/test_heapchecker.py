from itertools import combinations

from tests.books import (
    EACH, LOOSE, ODD_VALUES, ONE, PAIR, RING, SAMPLES, SINGLE, is_book_plainly, random_books, small_heaps,
)
from tests.cases import Case
from unsewn.errors import InvalidPaper
from unsewn.heapchecker import fault_of, lets_book
from unsewn.heapcounts import surplus_of
from unsewn.heaplots import entering, gates_of, leaving, within
from unsewn.kinds import is_book, is_heap

NOT_HEAPS = ODD_VALUES + (
    (0, ()), (-1, ()), (True, ()), ("1", ()), (1, ((0,),)), (1, ((0, 0, 0),)), (1, ((0, 1),)), (1, ((0, -1),)),
    (1, ((0, False),)), (1, ([0, 0],)), (1, [(0, 0)]), [1, ((0, 0),)], (1, ((0, 0),), ()), (1, None), (1,), (1, ((0, "0"),)),
)


def plain_fault(heap):
    """The first fault, found word by word, and the piece of 0 as the greatest lot with 0 that cannot be parted."""
    size, leaves = heap
    firsts = [first for first, _ in leaves]
    seconds = [second for _, second in leaves]
    for word in range(size):
        if firsts.count(word) != seconds.count(word):
            return ("uneven", word)
    for word in range(size):
        if word not in firsts:
            return ("bare", word)
    for many in range(1, size):
        for rest in combinations(range(1, size), many - 1):
            lot = (0,) + rest
            if not any((x in lot) != (y in lot) for x, y in leaves):
                return ("apart", lot)
    return None


class TestFaults(Case):
    def assert_invalid(self, word, at, thing):
        with self.assertRaises(InvalidPaper) as caught:
            lets_book(thing)
        self.assert_exact((caught.exception.word, caught.exception.at), (word, at), thing)

    def test_examples(self):
        told = fault_of(EACH), fault_of((2, ((0, 0), (1, 1)))), fault_of((3, ((0, 0), (1, 2))))
        self.assert_exact(told, (None, ("apart", (0,)), ("uneven", 1)))
        self.assert_exact(lets_book(EACH), 6)
        self.assert_invalid("bare", 1, (3, ((0, 0), (2, 2))))

    def test_edges(self):
        self.assert_exact((fault_of((1, ())), fault_of((2, ())), fault_of((1, ((0, 0),)))), (("bare", 0), ("bare", 0), None))
        self.assert_exact(fault_of((3, ((0, 2), (2, 0), (1, 1)))), ("apart", (0, 2)))
        self.assert_exact(fault_of((3, ((0, 2), (2, 0)))), ("bare", 1))
        # A word that only ends leaves is uneven ahead of being bare.
        self.assert_exact(fault_of((3, ((0, 2),))), ("uneven", 0))
        self.assert_exact(fault_of((3, ((1, 1), (1, 2)))), ("uneven", 1))
        self.assert_exact(tuple(lets_book(book) for book in (RING, LOOSE, ONE, SINGLE, PAIR)), (3, 5, 3, 1, 2))
        self.assert_invalid("apart", 1, (3, ((0, 2), (2, 0), (1, 1))))
        self.assert_invalid("apart", 2, (4, ((0, 1), (1, 0), (2, 3), (3, 2))))
        self.assert_invalid("bare", 0, (1, ()))

    def test_a_size_far_beyond_the_leaves(self):
        self.assert_exact(fault_of((10 ** 59, ((0, 0),))), ("bare", 1))
        self.assert_invalid("bare", 0, (10 ** 59, ()))
        self.assert_invalid("uneven", 5, (10 ** 59, ((5, 10 ** 58),)))

    def test_all_small_heaps(self):
        seen = set()
        for heap in tuple(small_heaps(2, 4)) + tuple(small_heaps(3, 3)) + SAMPLES + tuple(random_books(16, 20, 6, 10)):
            told = plain_fault(heap)
            seen.add(told and told[0])
            self.assert_exact(fault_of(heap), told, heap)
            self.assertEqual(told is None, is_book_plainly(heap))
            self.assert_exact(is_book(heap), told is None)
            if told is None:
                self.assert_exact(lets_book(heap), len(heap[1]))
            elif told[0] == "apart":
                self.assert_invalid("apart", min(set(range(heap[0])) - set(told[1])), heap)
            else:
                self.assert_invalid(*told, heap)
        self.assertEqual(seen, {None, "uneven", "bare", "apart"})

    def test_a_leaf_left_out(self):
        for book in (RING, EACH, LOOSE, PAIR):
            for leaf, (first, catchword) in enumerate(book[1]):
                heap = (book[0], book[1][:leaf] + book[1][leaf + 1:])
                self.assert_exact(fault_of(heap), plain_fault(heap))
                if first != catchword:
                    self.assert_exact(fault_of(heap), ("uneven", min(first, catchword)))

    def test_any_value(self):
        for thing in NOT_HEAPS:
            self.assertFalse(is_heap(thing))
            self.assert_invalid("heap", -1, thing)
        self.assert_exact((lets_book(thing=RING), fault_of(heap=RING)), (3, None))

    def test_consequences(self):
        for heap in tuple(small_heaps(3, 3)):
            size, leaves = heap
            self.assertEqual(sum(surplus_of(heap, word) for word in range(size)), 0)
            lots = [lot for many in range(size + 1) for lot in combinations(range(size), many)]
            for lot in lots:
                if fault_of(heap) is None or fault_of(heap)[0] != "uneven":
                    self.assertEqual(len(entering(heap, lot)), gates_of(heap, lot))
                for other in lots:
                    both = tuple(sorted(set(lot) & set(other)))
                    either = tuple(sorted(set(lot) | set(other)))
                    more = gates_of(heap, lot) + gates_of(heap, other)
                    self.assertTrue(more >= gates_of(heap, both) + gates_of(heap, either))
                inside = set(within(heap, lot)) | set(leaving(heap, lot)) | set(entering(heap, lot))
                rest = within(heap, tuple(word for word in range(size) if word not in lot))
                self.assertEqual(inside | set(rest), set(range(len(leaves))))
