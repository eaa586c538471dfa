from math import factorial

from tests.books import EACH, LOOSE, ONE, RING, SAMPLES, SINGLE, all_readings, all_trees, random_books, small_books
from tests.cases import NOT_NUMBERS, Case
from unsewn.counts import reading_count, tree_count


class TestCounts(Case):
    def test_examples(self):
        self.assert_exact((tree_count(LOOSE, 1), reading_count(LOOSE)), (2, 4))
        self.assert_exact((tree_count(EACH, 0), reading_count(EACH)), (3, 3))

    def test_edges(self):
        for book, trees, readings in ((SINGLE, 1, 1), (ONE, 1, 2), (RING, 1, 1)):
            self.assert_exact((tree_count(book, 0), reading_count(book)), (trees, readings))

    def test_against_all_trees_and_readings(self):
        for book in SAMPLES + tuple(small_books(3, 6)) + tuple(random_books(28, 25, 6, 8)):
            for word in range(book[0]):
                self.assert_exact(tree_count(book, word), len(all_trees(book, word)))
            for first in range(len(book[1])):
                self.assert_exact(reading_count(book), len(all_readings(book, first)))

    def test_far_more_than_one_could_go_through(self):
        self.assert_exact(reading_count((1, ((0, 0),) * 40)), factorial(39))
        self.assert_exact(tree_count((2, ((0, 1), (1, 0)) * 20), 1), 20)
        self.assert_exact(reading_count((2, ((0, 1), (1, 0)) * 20)), 20 * factorial(19) ** 2)
        # From each of many words to each other one: as many trees as Cayley tells.
        for size in range(2, 7):
            book = (size, tuple((x, y) for x in range(size) for y in range(size) if x != y))
            self.assert_exact(tree_count(book, size - 1), size ** (size - 2))
            self.assert_exact(reading_count(book), size ** (size - 2) * factorial(size - 2) ** size)
        ring = (10, tuple((word, (word + 1) % 10) for word in range(10)) * 4)
        self.assert_exact((tree_count(ring, 3), reading_count(ring)), (4 ** 9, 4 ** 9 * 6 ** 10))
        for book in random_books(30, 10, 10, 40):
            self.assertEqual(len({tree_count(book, word) for word in range(book[0])}), 1)

    def test_refusals(self):
        self.assert_refused_in_order(tree_count, (("book", RING), ("word", 0)), {"word": NOT_NUMBERS + (3,)})
        self.assert_exact(tree_count(word=1, book=LOOSE), 2)
