from fractions import Fraction

from tests.books import (
    EACH, LOOSE, ONE, PAIR, RING, SAMPLES, SINGLE, all_readings, fraction, random_books, share, small_books,
)
from tests.cases import Case
from unsewn.looks import best_look, look_shares


def plain_looks(book):
    leaves = book[1]
    looks = []
    for e in range(len(leaves)):
        readings = all_readings(book, e)
        for f in range(len(leaves)):
            if e != f and leaves[e][1] == leaves[f][0]:
                told = sum(reading[1] == f for reading in readings)
                if 0 < told < len(readings):
                    looks.append(((e, f), share(told, len(readings))))
    return tuple(looks)


class TestLooks(Case):
    def test_loose(self):
        half, quarter = (1, 2), (1, 4)
        self.assert_exact(look_shares(LOOSE), (
            ((0, 1), half), ((0, 2), quarter), ((0, 3), quarter), ((1, 2), half), ((1, 3), half), ((2, 0), half),
            ((2, 4), half), ((3, 0), half), ((3, 4), half), ((4, 1), half), ((4, 2), quarter), ((4, 3), quarter)))
        self.assert_exact(best_look(LOOSE), (0, 1))

    def test_without_one(self):
        for book in (SINGLE, PAIR, RING):
            self.assert_exact((look_shares(book), best_look(book)), ((), None))

    def test_all_shares_alike(self):
        third = (1, 3)
        told = tuple(((e, f), third) for e in range(4) for f in range(4) if e != f)
        self.assert_exact(look_shares((1, ((0, 0),) * 4)), told)
        self.assert_exact(best_look((1, ((0, 0),) * 4)), (0, 1))
        self.assert_exact(best_look(ONE), (0, 1))

    def test_against_all_readings(self):
        books = SAMPLES + (EACH,) + tuple(small_books(3, 6)) + tuple(random_books(52, 25, 5, 8))
        seen = set()
        for book in books:
            looks = plain_looks(book)
            self.assert_exact(look_shares(book), looks)
            nearest = sorted(looks, key=lambda look: (abs(fraction(look[1]) - Fraction(1, 2)), look[0]))
            self.assert_exact(best_look(book), nearest[0][0] if nearest else None)
            seen.add(bool(nearest) and nearest[0] != looks[0])
        # Among the books is one whose best look is not its first.
        self.assertIn(True, seen)
