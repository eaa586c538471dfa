from fractions import Fraction

from tests.books import LOOSE, ONE, RING, SAMPLES, SINGLE, fraction, random_books, small_books
from tests.cases import NOT_NUMBERS, Case
from unsewn.walks import walk_back, walk_of


class TestWalks(Case):
    def test_examples(self):
        self.assert_exact(walk_of(LOOSE, 1), ((3, 2), (0, 1)))
        self.assert_exact(walk_back(RING, 2), ((1, 1), (2, 1), (0, 1)))

    def test_more(self):
        self.assert_exact(walk_of(RING, 2), ((2, 1), (1, 1), (0, 1)))
        self.assert_exact(walk_back(LOOSE, 1), ((3, 2), (0, 1)))
        for book in (ONE, SINGLE):
            self.assert_exact(walk_of(book, 0), ((0, 1),))
            self.assert_exact(walk_back(book, 0), ((0, 1),))

    def check_walk(self, leaves, size, ground, walk):
        self.assertEqual(len(walk), size)
        self.assert_exact(walk[ground], (0, 1))
        for word in range(size):
            ends = [fraction(walk[leaf[1]]) for leaf in leaves if leaf[0] == word]
            if word != ground:
                self.assertEqual(fraction(walk[word]), 1 + sum(ends, Fraction(0)) / len(ends))
            else:
                self.assertEqual(sum(1 + end for end in ends), len(leaves))

    def test_definition(self):
        for book in SAMPLES + tuple(small_books(3, 5)) + tuple(random_books(39, 20, 10, 40)):
            size, leaves = book
            turned = tuple((catchword, first) for first, catchword in leaves)
            for ground in range(size):
                self.check_walk(leaves, size, ground, walk_of(book, ground))
                self.check_walk(turned, size, ground, walk_back(book, ground))
                self.assert_exact(walk_back(book, ground), walk_of((size, turned), ground))

    def test_refusals(self):
        for call in (walk_of, walk_back):
            self.assert_exact(call(ground=0, book=RING), call(RING, 0))
            for wrong in NOT_NUMBERS + (3,):
                self.assert_not_usable("ground", call, RING, wrong)
