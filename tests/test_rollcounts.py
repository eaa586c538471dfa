from tests.books import (
    EACH, LOOSE, ONE, PAIR, RING, SAMPLES, SINGLE, all_pairings_plainly, fraction, random_books, rolls_plainly, small_books, threes,
)
from tests.cases import NOT_NUMBERS, NOT_THREES, Case
from unsewn.counts import reading_count
from unsewn.rollcounts import three_rolls, two_rolls, with_apart
from unsewn.tables import table_of

BOOKS = SAMPLES + tuple(small_books(3, 5)) + tuple(random_books(48, 8, 4, 6))


def home(rolls, leaf):
    return [at for at, roll in enumerate(rolls) if leaf in roll][0]


class TestRollCounts(Case):
    def test_examples(self):
        self.assert_exact(two_rolls(ONE, 0, 1), 2)

    def test_edges(self):
        self.assert_exact((two_rolls(PAIR, 0, 1), two_rolls(RING, 0, 2), three_rolls(RING, (0, 1, 2))), (0, 0, 0))
        self.assert_exact((three_rolls(ONE, (0, 1, 2)), with_apart(ONE, (0, 1, 2))), (1, 1))
        self.assert_exact((three_rolls(EACH, (0, 1, 3)), three_rolls(EACH, (0, 1, 5))), (0, 1))
        # Two loops at one word are rolls by themselves.
        self.assert_exact(two_rolls((1, ((0, 0), (0, 0))), 0, 1), 1)

    def test_against_all_pairings(self):
        for book in BOOKS:
            all_rolls = [rolls_plainly(pairing) for pairing in all_pairings_plainly(book)]
            two = [rolls for rolls in all_rolls if len(rolls) == 2]
            three = [rolls for rolls in all_rolls if len(rolls) == 3]
            many = len(book[1])
            for one in range(many):
                for other in range(many):
                    if one != other:
                        told = sum(home(rolls, one) != home(rolls, other) for rolls in two)
                        self.assert_exact(two_rolls(book, one, other), told)
            for a, b, c in threes(book):
                told = sum(len({home(rolls, leaf) for leaf in (a, b, c)}) == 3 for rolls in three)
                self.assert_exact(three_rolls(book, (a, b, c)), told)
                told = sum(home(rolls, a) == home(rolls, b) != home(rolls, c) for rolls in two)
                self.assert_exact(with_apart(book, (a, b, c)), told)

    def test_by_the_table(self):
        for book in random_books(49, 8, 10, 40):
            table = table_of(book, 0)
            leaves = book[1]
            many = len(leaves)
            for one, other in ((0, 1), (1, many - 1), (2, many // 2 + 1)) if many > 4 else ():
                parts = [fraction(table[leaves[e][1]][leaves[f][0]]) for e, f in ((one, one), (other, other), (one, other), (other, one))]
                told = reading_count(book) * (1 + parts[0] + parts[1] - parts[2] - parts[3])
                self.assertEqual(two_rolls(book, one, other), told)

    def test_they_add_up(self):
        for book in random_books(50, 10, 10, 40):
            for a, b, c in list(threes(book))[:6]:
                self.assertEqual(two_rolls(book, a, c), with_apart(book, (a, b, c)) + with_apart(book, (b, c, a)))
                self.assertEqual(three_rolls(book, (a, b, c)), three_rolls(book, (c, a, b)))
                self.assertEqual(three_rolls(book, (a, b, c)), three_rolls(book, (a, c, b)))

    def test_refusals(self):
        wrong = NOT_NUMBERS + (5,)
        good = (("book", LOOSE), ("one", 1), ("other", 2))
        self.assert_refused_in_order(two_rolls, good, {"one": wrong, "other": wrong + (1,)})
        self.assert_not_usable("other", two_rolls, SINGLE, 0, 0)
        for call in (three_rolls, with_apart):
            self.assert_refused_in_order(call, (("book", LOOSE), ("three", (0, 1, 2))), {"three": NOT_THREES})
            self.assert_not_usable("three", call, PAIR, (0, 1, 0))

    def test_by_name(self):
        self.assert_exact(two_rolls(other=1, one=0, book=ONE), 2)
        self.assert_exact((three_rolls(three=(0, 1, 2), book=ONE), with_apart(three=(0, 1, 2), book=ONE)), (1, 1))
