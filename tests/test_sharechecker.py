from fractions import Fraction

from tests.books import (
    EACH, LOOSE, ODD_VALUES, ONE, PAIR, RING, all_readings, as_pair, comes, fraction, random_books, share, small_books, threes,
)
from tests.cases import NOT_NUMBERS, NOT_THREES, Case
from tests.test_columnchecker import NOT_QUOTIENTS, plain_fault
from unsewn.errors import InvalidPaper
from unsewn.shares import order_share
from unsewn.sharechecker import lets_share
from unsewn.sharepapers import share_paper
from unsewn.tables import column_of

PAPER = (1, (((0, 1), (0, 1)), ((1, 2), (0, 1)), ((1, 2), (0, 1))))


def paper_with(book, three, ground):
    return ground, tuple(column_of(book, ground, book[1][leaf][0]) for leaf in three)


class TestShareChecker(Case):
    def assert_invalid(self, word, at, *args):
        with self.assertRaises(InvalidPaper) as caught:
            lets_share(*args)
        self.assert_exact((caught.exception.word, caught.exception.at), (word, at), args)

    def test_examples(self):
        self.assert_exact(lets_share(LOOSE, (0, 1, 2), PAPER), (3, 4))

    def test_each_ground_will_do(self):
        for book in (RING, EACH, LOOSE, ONE) + tuple(small_books(3, 5)) + tuple(random_books(112, 10, 5, 7)):
            for three in list(threes(book))[::6]:
                readings = all_readings(book, three[0])
                told = share(sum(comes(reading, three) for reading in readings), len(readings))
                self.assert_exact(lets_share(book, three, share_paper(book, three)), told)
                for ground in range(book[0]):
                    self.assert_exact(lets_share(book, three, paper_with(book, three, ground)), told)

    def test_large_books(self):
        for book in random_books(113, 10, 10, 40):
            if len(book[1]) > 2:
                told = order_share(book, (2, 0, 1))
                for ground in range(book[0]):
                    self.assert_exact(lets_share(book, (2, 0, 1), paper_with(book, (2, 0, 1), ground)), told)

    def test_wrong_entries(self):
        words = set()
        for book in (RING, EACH, LOOSE, ONE) + tuple(small_books(2, 4)) + tuple(random_books(114, 6, 4, 8)):
            for three in list(threes(book))[::17]:
                for ground in range(book[0]):
                    right = paper_with(book, three, ground)
                    for at in range(3):
                        for x in range(book[0]):
                            for more in (Fraction(1), Fraction(-2, 3)):
                                column = list(right[1][at])
                                column[x] = as_pair(fraction(column[x]) + more)
                                columns = right[1][:at] + (tuple(column),) + right[1][at + 1:]
                                word, place = plain_fault(book, ground, book[1][three[at]][0], tuple(column))
                                words.add(word)
                                told = at if word == "ground" else (at, place)
                                self.assert_invalid(word, told, book, three, (ground, columns))
        self.assertEqual(words, {"ground", "sum"})

    def test_column_by_column(self):
        nought, one = ((0, 1), (0, 1)), ((1, 1), (1, 1))
        half = ((1, 2), (0, 1))
        self.assert_invalid("sum", (0, 0), LOOSE, (1, 2, 0), (1, (nought, one, one)))
        self.assert_invalid("ground", 1, LOOSE, (1, 2, 0), (1, (half, one, nought)))
        self.assert_invalid("ground", 2, LOOSE, (1, 2, 0), (1, (half, half, one)))
        self.assert_invalid("sum", (2, 0), LOOSE, (1, 2, 0), (1, (half, half, half)))
        # The first words of the three are told, in their sequence.
        self.assert_invalid("sum", (0, 0), LOOSE, (0, 1, 2), (1, (half, nought, half)))
        self.assert_invalid("sum", (1, 0), LOOSE, (0, 1, 2), (1, (nought, nought, half)))
        self.assert_exact(lets_share(LOOSE, (1, 2, 0), (1, (half, half, nought))), (3, 4))

    def test_kind(self):
        columns = PAPER[1]
        for thing in ODD_VALUES + (
            list(PAPER), PAPER + ((),), PAPER[:1], (columns, 1), (1, list(columns)), (1, columns[:2]), (1, columns + columns[:1]),
            (1, columns[:2] + (list(columns[2]),)), (1, columns[:2] + (columns[2][:1],)), (1, columns[:2] + (columns[2] + ((0, 1),),)),
            (1, None), (1, ()), (1, ((), (), ())), (1, columns[0]),
        ):
            self.assert_invalid("kind", -1, LOOSE, (0, 1, 2), thing)
        for ground in NOT_NUMBERS + (2,):
            self.assert_invalid("kind", -1, LOOSE, (0, 1, 2), (ground, columns))
        for wrong in NOT_QUOTIENTS:
            for at in range(3):
                broken = columns[:at] + ((columns[at][0], wrong),) + columns[at + 1:]
                self.assert_invalid("kind", -1, LOOSE, (0, 1, 2), (1, broken))

    def test_refusals(self):
        good = (("book", LOOSE), ("three", (0, 1, 2)), ("thing", PAPER))
        self.assert_refused_in_order(lets_share, good, {"three": NOT_THREES})
        self.assert_not_usable("three", lets_share, PAIR, (0, 1, 2), None)
        self.assert_exact(lets_share(thing=PAPER, three=(0, 1, 2), book=LOOSE), (3, 4))
