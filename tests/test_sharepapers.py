from fractions import Fraction

from tests.books import (
    EACH, LOOSE, ONE, PAIR, RING, all_readings, as_pair, comes, fraction, random_books, share, small_books, threes,
)
from tests.cases import NOT_THREES, Case
from unsewn.kinds import is_quotient, is_word
from unsewn.shares import order_share
from unsewn.sharepapers import share_paper
from unsewn.tables import column_of


def plain_share(book, three, paper):
    """The share by (G2), from the columns of the paper."""
    columns = {leaf: column for leaf, column in zip(three, paper[1])}
    leaves = book[1]

    def lead(e, f):
        return fraction(columns[f][leaves[e][1]]) - fraction(columns[e][leaves[f][1]])

    a, b, c = three
    return as_pair(Fraction(1 + lead(a, b) + lead(b, c) + lead(c, a)) / 2)


class TestSharePapers(Case):
    def assert_paper(self, book, three):
        paper = share_paper(book, three)
        self.assertEqual((paper.__class__, len(paper)), (tuple, 2))
        ground, columns = paper
        self.assertTrue(is_word(book, ground))
        self.assertEqual((columns.__class__, len(columns)), (tuple, 3))
        for leaf, column in zip(three, columns):
            first = book[1][leaf][0]
            self.assert_exact(column, column_of(book, ground, first))
            self.assertEqual((column.__class__, len(column)), (tuple, book[0]))
            self.assertTrue(all(is_quotient(entry) for entry in column))
            if first == ground:
                self.assertEqual(set(column), {(0, 1)})
        return paper

    def test_against_all_readings(self):
        for book in (RING, EACH, LOOSE, ONE) + tuple(small_books(3, 5)) + tuple(random_books(80, 15, 5, 7)):
            for three in list(threes(book))[::4]:
                paper = self.assert_paper(book, three)
                readings = all_readings(book, three[0])
                told = share(sum(comes(reading, three) for reading in readings), len(readings))
                self.assert_exact(plain_share(book, three, paper), told)

    def test_large_books(self):
        for book in random_books(81, 15, 10, 40):
            for three in ((0, 1, 2), (2, 0, 1)):
                if len(book[1]) > 2:
                    self.assert_exact(plain_share(book, three, self.assert_paper(book, three)), order_share(book, three))

    def test_refusals(self):
        self.assert_refused_in_order(share_paper, (("book", EACH), ("three", (0, 1, 2))), {"three": NOT_THREES})
        self.assert_not_usable("three", share_paper, PAIR, (0, 1, 2))
        self.assert_exact(share_paper(three=(0, 1, 2), book=LOOSE), share_paper(LOOSE, (0, 1, 2)))
