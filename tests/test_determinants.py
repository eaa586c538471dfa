import random
from itertools import permutations, product

from tests.books import EACH, LOOSE, ONE, RING, SAMPLES, SINGLE, all_trees, random_books, small_books
from tests.cases import NOT_NUMBERS, Case
from unsewn.determinants import determinant, walk_rows


def by_all_orders(rows):
    """The determinant as the sum over all orders of the columns."""
    result = 0
    for order in permutations(range(len(rows))):
        part = 1
        for at in range(len(rows)):
            part *= rows[at][order[at]]
            part *= (-1) ** sum(order[k] > order[at] for k in range(at))
        result += part
    return result


class TestDeterminant(Case):
    def test_examples(self):
        self.assert_exact(determinant(((0, 2), (3, 4))), -6)
        self.assert_exact(determinant(()), 1)

    def test_small_squares(self):
        for entries in product((-1, 0, 2), repeat=4):
            rows = (entries[:2], entries[2:])
            self.assert_exact(determinant(rows), by_all_orders(rows))
        rng = random.Random(34)
        for _ in range(300):
            many = rng.randrange(1, 6)
            rows = tuple(tuple(rng.choice((0, 0, 1, -1, 3, -7)) for _ in range(many)) for _ in range(many))
            self.assert_exact(determinant(rows), by_all_orders(rows))

    def test_edges(self):
        self.assert_exact(determinant(((5,),)), 5)
        self.assert_exact(determinant(((0, 0), (0, 0))), 0)
        ten = tuple(tuple(2 if at == k else 0 for k in range(10)) for at in range(10))
        self.assert_exact(determinant(ten), 1024)
        self.assert_exact(determinant(ten[1:] + ten[:1]), -1024)
        large = 10 ** 999 + 7
        self.assert_exact(determinant(((large, 1), (1, large))), large * large - 1)

    def test_refusals(self):
        eleven = tuple(tuple(1 if at == k else 0 for k in range(11)) for at in range(11))
        for wrong in (None, 1, True, "", [], [[1]], ([1],), ((1, 2),), ((1,), (2,)), ((1, 2), (3,)), ((1, True), (0, 1)),
                      ((1, "2"), (0, 1)), ((1, None), (0, 1)), ((1, 2), [3, 4]), (1,), ((),), ((), ()), eleven):
            self.assert_not_usable("rows", determinant, wrong)


class TestWalkRows(Case):
    def test_examples(self):
        self.assert_exact(walk_rows(RING, 2), ((1, -1), (0, 1)))
        self.assert_exact(walk_rows(ONE, 0), ())
        self.assert_exact(walk_rows(SINGLE, 0), ())

    def test_more(self):
        self.assert_exact(walk_rows(EACH, 1), ((2, -1), (-1, 2)))
        self.assert_exact(walk_rows(LOOSE, 1), ((2,),))
        self.assert_exact(walk_rows(LOOSE, 0), ((2,),))

    def test_by_counting_leaves(self):
        for book in list(random_books(33, 60, 5, 9)):
            for ground in range(book[0]):
                kept = [word for word in range(book[0]) if word != ground]
                told = tuple(tuple(
                    sum(leaf[0] == x and leaf[1] != x for leaf in book[1]) if x == y else -book[1].count((x, y))
                    for y in kept) for x in kept)
                self.assert_exact(walk_rows(book, ground), told)

    def test_they_count_trees(self):
        for book in SAMPLES + tuple(small_books(3, 5)):
            for ground in range(book[0]):
                self.assert_exact(determinant(walk_rows(book, ground)), len(all_trees(book, ground)))

    def test_refusals(self):
        for wrong in NOT_NUMBERS + (3,):
            self.assert_not_usable("ground", walk_rows, RING, wrong)
