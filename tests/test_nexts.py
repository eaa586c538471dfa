from tests.books import (
    EACH, LOOSE, ONE, PAIR, RING, SAMPLES, SINGLE, all_readings, fraction, random_books, share, small_books,
)
from tests.cases import NOT_TUPLES, Case
from unsewn.nexts import next_rows, next_share

NOT_FINDS = NOT_TUPLES + ((), (0,), (0, 0), (0, 0, 2), (0, 1), (0, 99), (-1, 2), (0, True), (False, 2), ("0", 2), ((0, 2),))


class TestNexts(Case):
    def test_examples(self):
        self.assert_exact(next_share(LOOSE, (0, 2)), (1, 4))
        self.assert_exact(next_rows(LOOSE)[1], ((2, (1, 2)), (3, (1, 2))))

    def test_edges(self):
        self.assert_exact(next_rows(SINGLE), ((),))
        self.assert_exact(next_rows(PAIR), (((1, (1, 1)),), ((0, (1, 1)),)))
        self.assert_exact(next_share(RING, (2, 0)), (1, 1))
        # A find by which the book is torn.
        self.assert_exact(next_share((2, ((0, 0), (0, 1), (1, 0))), (2, 1)), (0, 1))
        self.assert_exact(next_share(ONE, (0, 1)), (1, 2))

    def test_against_all_readings(self):
        for book in SAMPLES + tuple(small_books(3, 6)) + tuple(random_books(45, 25, 5, 8)):
            leaves = book[1]
            rows = []
            for e in range(len(leaves)):
                readings = all_readings(book, e)
                behind = [f for f in range(len(leaves)) if f != e and leaves[e][1] == leaves[f][0]]
                told = tuple((f, share(sum(reading[1] == f for reading in readings), len(readings))) for f in behind)
                for f, part in told:
                    self.assert_exact(next_share(book, (e, f)), part)
                rows.append(told)
            self.assert_exact(next_rows(book), tuple(rows))

    def test_they_add_up(self):
        for book in random_books(46, 10, 10, 40):
            for row in next_rows(book):
                if len(book[1]) > 1:
                    self.assertEqual(sum(fraction(part) for _, part in row), 1)
                self.assertEqual([f for f, _ in row], sorted(f for f, _ in row))

    def test_refusals(self):
        for wrong in NOT_FINDS:
            if wrong != (0, 1):
                self.assert_not_usable("find", next_share, LOOSE, wrong)
        self.assert_not_usable("find", next_share, LOOSE, (0, 4))
        self.assert_not_usable("find", next_share, SINGLE, (0, 0))
        self.assert_exact(next_share(find=(0, 3), book=EACH), (1, 3))
