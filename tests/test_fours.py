from itertools import islice, permutations

from tests.books import EACH, LOOSE, RING, SAMPLES, all_readings, comes, fraction, random_books, share, small_books
from tests.cases import NOT_THREES, Case
from unsewn.fours import four_gap

NOT_FOURS = tuple(thing for thing in NOT_THREES if thing != (0, 1, 2, 3)) + (
    (0, 1, 2), (0, 1, 2, 2), (0, 1, 2, 0), (0, 1, 2, 99), (0, 1, 2, True), (0, 1, 2, -1), [0, 1, 2, 3], (0, 1, 2, 3, 4), (0, 1, 2, "3"),
)


def in_order(reading, leaves):
    """Whether the leaves come in this order in the ring."""
    return all(comes(reading, (leaves[0],) + leaves[at:at + 2]) for at in range(1, len(leaves) - 1))


class TestFours(Case):
    def test_examples(self):
        self.assert_exact(four_gap(LOOSE, (0, 1, 2, 4)), (1, 4))

    def test_against_all_readings(self):
        below = 0
        for book in SAMPLES + tuple(small_books(3, 5)) + tuple(random_books(51, 15, 4, 7)):
            readings = all_readings(book, 0)
            for a, b, c, d in islice(permutations(range(len(book[1])), 4), 0, 400, 3):
                gap = sum(in_order(reading, (a, b, c, d)) - in_order(reading, (a, d, c, b)) for reading in readings)
                self.assert_exact(four_gap(book, (a, b, c, d)), share(gap, len(readings)))
                below += gap < 0
        self.assertTrue(below > 20, below)

    def test_turned_and_turned_about(self):
        for book in random_books(52, 10, 10, 40):
            for a, b, c, d in islice(permutations(range(len(book[1])), 4), 4):
                gap = fraction(four_gap(book, (a, b, c, d)))
                self.assertEqual(gap, fraction(four_gap(book, (c, d, a, b))))
                self.assertEqual(gap, -fraction(four_gap(book, (a, d, c, b))))

    def test_refusals(self):
        for wrong in NOT_FOURS:
            self.assert_not_usable("four", four_gap, EACH, wrong)
        self.assert_not_usable("four", four_gap, RING, (0, 1, 2, 3))
        self.assert_exact(four_gap(four=(0, 1, 2, 4), book=LOOSE), (1, 4))
