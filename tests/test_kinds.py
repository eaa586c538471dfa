from itertools import product

from tests.books import EACH, LOOSE, ODD_VALUES, ONE, PAIR, RING, SAMPLES, SINGLE, is_book_plainly, small_books
from tests.cases import NOT_LOTS, NOT_NUMBERS, NOT_THREES, Case
from unsewn.kinds import (
    is_book, is_heap, is_integer, is_leaf, is_lot, is_number, is_order, is_quotient, is_three, is_word,
)

DEEP = ()
for _ in range(29):
    DEEP = (DEEP,)


class TestIntegers(Case):
    def test_integers(self):
        for thing in (0, 1, -1, 10 ** 59, -10 ** 59):
            self.assert_exact(is_integer(thing), True)
            self.assert_exact(is_number(thing), thing >= 0)

    def test_bools_and_others_are_none(self):
        for thing in (True, False, None, "", "1", (), (1,), [], [1], DEEP):
            self.assert_exact(is_integer(thing), False)
            self.assert_exact(is_number(thing), False)


class TestQuotients(Case):
    def test_quotients(self):
        for thing in ((0, 1), (1, 1), (-1, 2), (7, 3), (-7, 1), (10 ** 59, 3), (3, 10 ** 900)):
            self.assert_exact(is_quotient(thing), True)

    def test_others(self):
        for thing in ((0, 2), (2, 4), (-2, 2), (1, 0), (0, 0), (1, -2), (0, -1), (1,), (1, 2, 3), (), [1, 2],
                      (True, 2), (1, True), (1, None), ("1", 2), ((1, 2), 1), (1, (2,)), 1, DEEP) + ODD_VALUES:
            self.assert_exact(is_quotient(thing), False, thing)


class TestHeaps(Case):
    def test_heaps(self):
        for thing in SAMPLES + ((1, ()), (2, ((0, 1),)), (10 ** 59, ()), (3, ((2, 2), (0, 1)))):
            self.assert_exact(is_heap(thing), True)

    def test_others(self):
        for thing in ((0, ()), (-1, ()), (True, ()), (1,), (1, (), ()), [1, ()], (1, []), (1, None), (1, ((0, 1),)),
                      (2, ((0, True),)), (2, ((0, -1),)), (2, ((0,),)), (2, ((0, 1, 1),)), (2, ([0, 1],)), (2, ((),)),
                      (2, (0, 1)), ("1", ()), (None, ()), (2, ((0, 2),)), (2, (None,)), (2, "ab"),
                      (2, (("0", "1"),)), DEEP) + ODD_VALUES:
            self.assert_exact(is_heap(thing), False, thing)
            self.assert_exact(is_book(thing), False, thing)


class TestBooks(Case):
    def test_examples(self):
        self.assert_exact((is_book(ONE), is_book((1, ()))), (True, False))

    def test_samples(self):
        for book in SAMPLES:
            self.assert_exact(is_book(book), True)

    def test_heaps_that_are_no_books(self):
        for heap in ((2, ()), (2, ((0, 0), (1, 1))), (3, ((0, 0), (1, 2))), (2, ((0, 1),)), (2, ((0, 0),)),
                     (10 ** 59, ()), (10 ** 59, ((0, 0),)), (4, ((0, 1), (1, 0), (2, 3), (3, 2))),
                     (3, ((0, 1), (1, 2), (0, 2))), (3, ((0, 1), (1, 0), (0, 0), (1, 1)))):
            self.assert_exact(is_book(heap), False, heap)

    def test_all_small_heaps(self):
        books = set(small_books(3, 4))
        for size in (1, 2, 3):
            pairs = list(product(range(size), repeat=2))
            for many in range(4 if size == 3 else 5):
                for leaves in product(pairs, repeat=many):
                    told = is_book_plainly((size, leaves))
                    self.assert_exact(is_book((size, leaves)), told)
                    self.assertEqual((size, tuple(sorted(leaves))) in books, told)


class TestWithinAHeap(Case):
    def test_examples(self):
        told = (is_word(LOOSE, 2), is_leaf(LOOSE, 2), is_lot(EACH, (2, 0)), is_three(ONE, (2, 0, 1)))
        self.assert_exact(told, (False, True, False, True))

    def test_words_and_leaves(self):
        for heap in SAMPLES + ((3, ()),):
            for number in range(7):
                self.assert_exact(is_word(heap, number), number < heap[0])
                self.assert_exact(is_leaf(heap, number), number < len(heap[1]))
            for thing in NOT_NUMBERS + ODD_VALUES:
                self.assert_exact(is_word(heap, thing), False)
                self.assert_exact(is_leaf(heap, thing), False)

    def test_lots(self):
        for thing in ((), (0,), (2,), (0, 1), (0, 2), (1, 2), (0, 1, 2)):
            self.assert_exact(is_lot(RING, thing), True)
        for thing in NOT_LOTS + ((0, 3), (3,), (0, 2, 1), (1, 1), (0, [1])):
            self.assert_exact(is_lot(RING, thing), False, thing)
        self.assert_exact((is_lot(SINGLE, (0,)), is_lot(SINGLE, (1,)), is_lot((2, ()), (0, 1))), (True, False, True))

    def test_threes(self):
        for heap, most in ((EACH, 6), (LOOSE, 5), (ONE, 3)):
            for thing in product(range(7), repeat=3):
                told = len(set(thing)) == 3 and max(thing) < most
                self.assert_exact(is_three(heap, thing), told)
        for thing in NOT_THREES:
            self.assert_exact(is_three(EACH, thing), False, thing)
        self.assert_exact((is_three(PAIR, (0, 1, 2)), is_three(PAIR, (0, 1, 0))), (False, False))


class TestOrders(Case):
    def test_examples(self):
        self.assert_exact((is_order(0, ()), is_order(3, (2, 0, 1)), is_order(2, (0, 2))), (True, True, False))

    def test_all_short_tuples(self):
        for many in range(4):
            for length in range(4):
                for thing in product(range(4), repeat=length):
                    self.assert_exact(is_order(many, thing), sorted(thing) == list(range(many)))

    def test_any_value(self):
        for thing in ODD_VALUES + NOT_THREES + ((False, 1), (0, True), [0, 1], "01", DEEP):
            if thing not in ((), (0, 1)):
                self.assert_exact(is_order(2, thing), False, thing)
        self.assert_exact((is_order(10 ** 59, ()), is_order(1, (True,)), is_order(1, (False,))), (False, False, False))

    def test_many_must_be_a_number(self):
        for many in (None, True, False, -1, "3", (), (3,), [3]):
            for thing in ((), (0, 1, 2), None):
                self.assert_not_usable("many", is_order, many, thing)
