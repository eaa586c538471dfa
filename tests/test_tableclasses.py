from itertools import product

from tests.books import EACH, LOOSE, ODD_VALUES, ONE, PAIR, RING, SAMPLES, SINGLE, plain_finds, random_books, small_books
from tests.cases import NOT_NUMBERS, Case
from tests.test_nexts import NOT_FINDS
from tests.test_readingclasses import NOT_BOOKS
from unsewn.errors import Torn
from unsewn.glueing import count_with, glued
from unsewn.heapcounts import fan_of
from unsewn.tableclasses import Table
from unsewn.tables import column_of, table_of
from unsewn.tabletexts import table_lines

METHODS = ("entry", "column", "lines", "moved", "behind", "__eq__")
TEARING = (2, ((0, 0), (0, 1), (1, 0)))
BOOKS = SAMPLES + (TEARING,) + tuple(small_books(3, 4)) + tuple(random_books(111, 8, 5, 9))


class TestTable(Case):
    def assert_shows(self, table, book, ground):
        """Whether the Table is that of the book and the ground."""
        self.assertIs(table.__class__, Table)
        self.assert_exact(table == Table(book, ground), True)
        self.assert_exact(table.lines(), table_lines(table_of(book, ground)))

    def test_examples(self):
        self.assert_exact(Table(RING, 2).behind((0, 1)).lines(), ("1/1 0/1", "0/1 0/1"))
        self.assert_not_usable("find", Table(RING, 2).behind, (1, 2))

    def test_it_tells_what_the_functions_tell(self):
        for book in BOOKS:
            for ground in range(book[0]):
                table = Table(book, ground)
                rows = table_of(book, ground)
                self.assert_exact(table.lines(), table_lines(rows))
                for word in range(book[0]):
                    self.assert_exact(table.column(word), column_of(book, ground, word))
                    self.assert_exact(tuple(table.entry(x, word) for x in range(book[0])), table.column(word))
                    self.assert_shows(table.moved(word), book, word)
                    self.assert_exact(table.moved(word) == table, word == ground)
                    self.assert_exact(table.moved(word).moved(ground) == table, True)
                self.assert_shows(table, book, ground)

    def test_behind_finds(self):
        seen = {"torn": 0, "left out": 0, "moved": 0, "kept": 0, "many": 0}
        for book in BOOKS:
            for find, ground in product(plain_finds(book), range(book[0])):
                between = book[1][find[1]][0]
                table = Table(book, ground)
                if count_with(book, (find,)) == 0:
                    seen["torn"] += 1
                    with self.assertRaises(Torn) as caught:
                        table.behind(find)
                    self.assert_exact(vars(caught.exception), {"finds": (find,)})
                elif fan_of(book, between) > 1:
                    seen["many"] += 1
                    self.assert_shows(table.behind(find), glued(book, find)[0], ground)
                elif between == ground:
                    seen["left out"] += 1
                    self.assert_not_usable("find", table.behind, find)
                elif between < ground:
                    seen["moved"] += 1
                    self.assert_shows(table.behind(find), glued(book, find)[0], ground - 1)
                else:
                    seen["kept"] += 1
                    self.assert_shows(table.behind(find), glued(book, find)[0], ground)
                self.assert_shows(table, book, ground)
        self.assertTrue(min(seen.values()) > 10, seen)

    def test_equal(self):
        self.assert_exact((Table(RING, 2) == Table(RING, 2), Table(RING, 2) != Table(RING, 2)), (True, False))
        self.assert_exact((Table(RING, 2) == Table(RING, 1), Table(RING, 2) != Table(RING, 1)), (False, True))
        # A loop more changes nothing in the table, but the books are not equal.
        self.assert_exact(Table(ONE, 0).lines() == Table(SINGLE, 0).lines(), True)
        self.assert_exact(Table(ONE, 0) == Table(SINGLE, 0), False)
        self.assert_exact(Table(RING, 0) == Table((3, ((1, 2), (0, 1), (2, 0))), 0), False)
        for other in ODD_VALUES + (table_of(RING, 2), RING, (RING, 2), Table, Table(RING, 2).lines()):
            table = Table(RING, 2)
            self.assert_exact((table == other, other == table, table != other), (False, False, True))

    def test_edges(self):
        single = Table(SINGLE, 0)
        told = (single.entry(0, 0), single.column(0), single.lines(), single.moved(0) == single)
        self.assert_exact(told, ((0, 1), ((0, 1),), ("0/1",), True))
        self.assert_shows(Table(ONE, 0).behind((0, 1)), (1, ((0, 0), (0, 0))), 0)
        self.assert_shows(Table(PAIR, 0).behind((0, 1)), SINGLE, 0)
        self.assert_shows(Table(PAIR, 1).behind((1, 0)), SINGLE, 0)
        self.assert_not_usable("find", Table(PAIR, 0).behind, (1, 0))
        with self.assertRaises(Torn):
            Table(TEARING, 0).behind((2, 1))

    def test_each_method_stands_in_the_class(self):
        for name in METHODS:
            self.assertIn(name, vars(Table))

    def test_refusals(self):
        for book in NOT_BOOKS:
            self.assert_not_usable("book", Table, book, 0)
            self.assert_not_usable("book", Table, book, None)
        for wrong in NOT_NUMBERS + (3,):
            self.assert_not_usable("ground", Table, EACH, wrong)
        table = Table(ground=1, book=LOOSE)
        for wrong in NOT_NUMBERS + (2,):
            self.assert_not_usable("x", table.entry, wrong, 0)
            self.assert_not_usable("x", table.entry, wrong, wrong)
            self.assert_not_usable("y", table.entry, 0, wrong)
            self.assert_not_usable("word", table.column, wrong)
            self.assert_not_usable("word", table.moved, wrong)
        for wrong in NOT_FINDS + ODD_VALUES:
            if wrong != (0, 1):
                self.assert_not_usable("find", table.behind, wrong)
        self.assert_not_usable("find", table.behind, (0, 4))
        told = (table.entry(y=0, x=0), table.column(word=0), table.moved(word=0) == Table(LOOSE, 0), table.behind(find=(0, 2)).lines())
        self.assert_exact(told[:3], ((1, 2), ((1, 2), (0, 1)), True))
        self.assert_exact(told[3], table_lines(table_of(glued(LOOSE, (0, 2))[0], 1)))
