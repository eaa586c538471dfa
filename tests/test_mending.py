import random
from itertools import combinations_with_replacement, product

from tests.books import EACH, LOOSE, ONE, RING, SAMPLES, SINGLE, is_book_plainly, random_books, small_heaps
from tests.cases import Case
from unsewn.heapcounts import surplus_of
from unsewn.heaplots import pieces_of
from unsewn.kinds import is_word
from unsewn.mending import mend_count, mend_leaves


def fewest(heap):
    """The fewest leaves that make the heap a book, found by trying all sets of them."""
    pairs = list(product(range(heap[0]), repeat=2))
    many = 0
    while True:
        if any(is_book_plainly((heap[0], heap[1] + more)) for more in combinations_with_replacement(pairs, many)):
            return many
        many += 1


class TestMending(Case):
    def assert_mended(self, heap, many):
        self.assert_exact(mend_count(heap), many)
        leaves = mend_leaves(heap)
        self.assertIs(leaves.__class__, tuple)
        self.assertEqual(len(leaves), many, heap)
        for pair in leaves:
            self.assertTrue(pair.__class__ is tuple and len(pair) == 2 and all(is_word(heap, word) for word in pair))
        self.assertTrue(is_book_plainly((heap[0], heap[1] + leaves)), heap)

    def test_books_need_none(self):
        for book in SAMPLES + tuple(random_books(82, 20, 10, 40)):
            self.assert_exact((mend_count(book), mend_leaves(book)), (0, ()))

    def test_edges(self):
        self.assert_mended((1, ()), 1)
        self.assert_exact(mend_leaves((1, ())), ((0, 0),))
        self.assert_mended((2, ()), 2)
        self.assert_mended((10, ()), 10)
        self.assert_mended((2, ((0, 1),)), 1)
        self.assert_exact(mend_leaves((2, ((0, 1),))), ((1, 0),))
        self.assert_mended((3, ((0, 1), (0, 1))), 3)
        self.assert_mended((2, ((0, 0),)), 2)
        self.assert_mended((2, ((0, 0), (1, 1))), 2)
        self.assert_mended((4, ((0, 1), (2, 3))), 2)
        self.assert_mended((4, ((0, 1), (0, 1), (3, 2), (3, 2))), 4)
        self.assert_mended((5, ((0, 1), (2, 3), (4, 4))), 3)
        self.assert_mended((4, ((0, 1), (1, 0), (2, 3), (3, 2))), 2)

    def test_against_trying_all(self):
        for heap in tuple(small_heaps(1, 3)) + tuple(small_heaps(2, 4)) + tuple(small_heaps(3, 3)):
            self.assert_mended(heap, fewest(heap))
        rng = random.Random(83)
        for _ in range(30):
            leaves = tuple((rng.randrange(4), rng.randrange(4)) for _ in range(rng.randrange(6)))
            heap = (4, leaves)
            if mend_count(heap) <= 4:
                self.assert_mended(heap, fewest(heap))

    def test_large_heaps(self):
        rng = random.Random(84)
        for _ in range(300):
            size = rng.randrange(1, 11)
            heap = (size, tuple((rng.randrange(size), rng.randrange(size)) for _ in range(rng.randrange(41) // rng.randrange(1, 9))))
            if is_book_plainly(heap):
                many = 0
            else:
                many = sum(max(surplus_of(heap, word), 0) for word in range(size))
                many += sum(all(surplus_of(heap, word) == 0 for word in piece) for piece in pieces_of(heap))
            self.assert_mended(heap, many)

    def test_books_with_leaves_left_out(self):
        for book in (RING, EACH, LOOSE, ONE, SINGLE):
            for leaf in range(len(book[1])):
                heap = (book[0], book[1][:leaf] + book[1][leaf + 1:])
                self.assert_mended(heap, 0 if is_book_plainly(heap) else 1)

    def test_by_name(self):
        self.assert_exact((mend_count(heap=(1, ())), mend_leaves(heap=(1, ()))), (1, ((0, 0),)))
