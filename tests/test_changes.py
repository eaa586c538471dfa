from tests.books import (
    EACH, LOOSE, ODD_VALUES, ONE, PAIR, RING, SAMPLES, SINGLE, fraction, plain_finds, random_books, small_books,
)
from tests.cases import NOT_NUMBERS, Case
from tests.test_nexts import NOT_FINDS
from unsewn.changes import table_glued, table_parted
from unsewn.errors import Torn
from unsewn.glueing import count_with, glued
from unsewn.heapcounts import fan_of
from unsewn.makings import parted
from unsewn.tablechecker import lets_table
from unsewn.tables import table_of

TEARING = (2, ((0, 0), (0, 1), (1, 0)))
BOOKS = SAMPLES + (TEARING,) + tuple(small_books(3, 4)) + tuple(random_books(108, 10, 6, 14))


class TestParted(Case):
    def test_examples(self):
        told = (((1, 2), (0, 1), (0, 1)), ((0, 1), (0, 1), (0, 1)), ((1, 2), (0, 1), (1, 1)))
        self.assert_exact(table_parted(LOOSE, 1, 0), told)

    def test_edges(self):
        self.assert_exact(table_parted(SINGLE, 0, 0), (((0, 1), (0, 1)), ((0, 1), (1, 1))))
        self.assert_exact(table_parted(ONE, 0, 2), (((0, 1), (0, 1)), ((0, 1), (1, 1))))

    def test_all_leaves(self):
        for book in BOOKS:
            for ground in range(book[0]):
                for leaf in range(len(book[1])):
                    made = parted(book, leaf)
                    told = table_parted(book, ground, leaf)
                    self.assert_exact(lets_table(made, ground, told), book[0] + 1)
                    self.assert_exact(told, table_of(made, ground))
                    # Nobody walks otherwise among the old words.
                    self.assert_exact(tuple(row[:-1] for row in told[:-1]), table_of(book, ground))

    def test_refusals(self):
        good = (("book", LOOSE), ("ground", 1), ("leaf", 0))
        self.assert_refused_in_order(table_parted, good, {"ground": NOT_NUMBERS + (2,), "leaf": NOT_NUMBERS + (5,)})
        self.assert_exact(table_parted(leaf=0, ground=1, book=LOOSE), table_parted(LOOSE, 1, 0))


class TestGlued(Case):
    def test_examples(self):
        self.assert_not_usable("find", table_glued, TEARING, 1, (2, 1))
        told = (((1, 1), (0, 1), (0, 1)), ((0, 1), (1, 1), (0, 1)), ((0, 1), (0, 1), (0, 1)))
        self.assert_exact(table_glued(EACH, 2, (0, 3)), told)

    def test_all_finds(self):
        seen = {"made": 0, "torn": 0, "one": 0}
        for book in BOOKS:
            for find in plain_finds(book):
                between = book[1][find[1]][0]
                try:
                    made = glued(book, find)[0]
                except Torn:
                    made = None
                kind = "torn" if made is None else "one" if fan_of(book, between) == 1 else "made"
                seen[kind] += 1
                for ground in range(book[0]):
                    if kind == "made":
                        told = table_glued(book, ground, find)
                        self.assert_exact(lets_table(made, ground, told), book[0])
                        self.assert_exact(told, table_of(made, ground))
                    else:
                        self.assert_not_usable("find", table_glued, book, ground, find)
        self.assertTrue(min(seen.values()) > 20, seen)

    def test_by_one_product(self):
        # The table differs by one product: all its two by two squares of differences have the determinant 0.
        for book in (EACH, LOOSE, ONE) + tuple(random_books(109, 6, 5, 12)):
            for find in plain_finds(book):
                between = book[1][find[0]][1]
                if fan_of(book, between) > 1 and count_with(book, (find,)) > 0:
                    told = table_glued(book, 0, find)
                    size = book[0]
                    old = table_of(book, 0)
                    more = [[fraction(told[x][y]) - fraction(old[x][y]) for y in range(size)] for x in range(size)]
                    for x in range(1, size):
                        for y in range(1, size):
                            for k in range(size):
                                for n in range(size):
                                    self.assertEqual(more[k][n] * more[x][y], more[k][y] * more[x][n])

    def test_refusals(self):
        wrong = tuple(thing for thing in NOT_FINDS + ODD_VALUES if thing != (0, 1)) + ((0, 4), (2, 3))
        good = (("book", LOOSE), ("ground", 1), ("find", (0, 2)))
        self.assert_refused_in_order(table_glued, good, {"ground": NOT_NUMBERS + (2,), "find": wrong})
        self.assert_not_usable("find", table_glued, RING, 0, (0, 1))
        self.assert_not_usable("find", table_glued, PAIR, 0, (0, 1))
        self.assert_not_usable("find", table_glued, SINGLE, 0, (0, 0))
        self.assert_exact(table_glued(find=(0, 1), ground=0, book=ONE), (((0, 1),),))
