from itertools import combinations, product

from tests.books import (
    EACH, LOOSE, ODD_VALUES, ONE, PAIR, RING, SAMPLES, SINGLE, plain_finds, random_books, small_books,
)
from tests.cases import NOT_NUMBERS, Case
from unsewn.findkinds import are_finds, is_find


def can_go_together(finds):
    """Whether the finds, laid one by one as rows of leaves, close no ring and use no leaf's end twice."""
    rows = []
    for e, f in finds:
        ends = [row for row in rows if row[-1] == e] or [[e]]
        starts = [row for row in rows if row[0] == f] or [[f]]
        inner = [leaf for row in rows for leaf in row]
        if (inner.count(e) and ends == [[e]]) or (inner.count(f) and starts == [[f]]) or ends[0][0] == starts[0][0]:
            return False
        rows = [row for row in rows if row != ends[0] and row != starts[0]] + [ends[0] + starts[0]]
    return True


class TestFinds(Case):
    def test_examples(self):
        self.assert_exact(are_finds(RING, ((0, 1), (1, 2), (2, 0))), False)

    def test_pairs_of_leaves(self):
        for book in SAMPLES:
            told = plain_finds(book)
            for pair in product(range(8), repeat=2):
                self.assert_exact(is_find(book, pair), pair in told)
        self.assert_exact(is_find(ONE, (0, 1)), True)
        self.assert_exact((is_find(ONE, (0, 0)), is_find(SINGLE, (0, 0)), is_find(RING, (1, 0))), (False, False, False))
        # No reading has to have it.
        self.assert_exact(is_find((2, ((0, 0), (0, 1), (1, 0))), (2, 1)), True)

    def test_any_value(self):
        for thing in ODD_VALUES + NOT_NUMBERS + ([0, 1], (0, 1, 2), (0, True), (False, 1), (0,), (0, "1"), ((0, 1),)):
            self.assert_exact(is_find(RING, thing), False, thing)
        for thing in ODD_VALUES + NOT_NUMBERS + ((0, 1), [(0, 1)], ([0, 1],), ((0, 1), None), ((0, True),), ((0, 0),)):
            if thing not in ((), ((0, 1),)):
                self.assert_exact(are_finds(RING, thing), False, thing)

    def test_edges(self):
        for book in SAMPLES:
            self.assert_exact(are_finds(book, ()), True)
        self.assert_exact(are_finds(RING, ((0, 1), (1, 2))), True)
        self.assert_exact(are_finds(RING, ((1, 2), (0, 1))), False)
        self.assert_exact(are_finds(RING, ((0, 1), (0, 1))), False)
        self.assert_exact(are_finds(PAIR, ((0, 1), (1, 0))), False)
        self.assert_exact(are_finds(EACH, ((0, 3), (3, 0))), False)
        self.assert_exact(are_finds(EACH, ((0, 1), (0, 3))), False)
        self.assert_exact(are_finds(EACH, ((0, 1), (4, 1))), False)
        # A ring of some finds is none, also if another find stands apart from it.
        self.assert_exact(are_finds(ONE, ((0, 1), (1, 0))), False)
        self.assert_exact(are_finds(LOOSE, ((0, 2), (2, 4), (3, 0))), True)
        self.assert_exact(are_finds(LOOSE, ((0, 2), (2, 0), (3, 4))), False)
        # The book is torn by these two, but finds they are.
        self.assert_exact(are_finds(LOOSE, ((0, 2), (4, 3))), True)

    def test_all_sets_of_finds(self):
        for book in (RING, EACH, ONE, PAIR, SINGLE) + tuple(small_books(2, 4)) + tuple(random_books(29, 6, 3, 5)):
            finds = sorted(plain_finds(book))
            for many in range(min(len(finds), 5) + 1):
                for thing in list(combinations(finds, many))[:400]:
                    self.assert_exact(are_finds(book, thing), can_go_together(thing), (book, thing))
