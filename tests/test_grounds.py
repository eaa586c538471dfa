from itertools import product

from tests.books import (
    EACH, LOOSE, ODD_VALUES, ONE, RING, SAMPLES, SINGLE, as_pair, fraction, random_books, small_books,
)
from tests.cases import NOT_NUMBERS, Case
from tests.test_columnchecker import NOT_QUOTIENTS
from unsewn.grounds import is_table, regrounded, turned_over
from unsewn.makings import hung
from unsewn.tables import table_of
from unsewn.turns import backwards

SQUARE = (((1, 2), (-3, 4), (5, 1)), ((0, 1), (7, 3), (1, 1)), ((2, 5), (-1, 1), (9, 2)))
NOT_TABLES = ODD_VALUES + (
    ((),), (((0, 1),), ((0, 1),)), (((0, 1), (0, 1)),), (((0, 1), (0, 1)), ((0, 1),)), [((0, 1),)], ([(0, 1)],), ((0, 1),),
    (((0, 1), (0, 1)), None), (((0, 1), (0, 1)), "ab"), SQUARE[:2], SQUARE + SQUARE[:1],
) + tuple(((wrong,),) for wrong in NOT_QUOTIENTS)


class TestGrounds(Case):
    def test_examples(self):
        told = (((0, 1), (0, 1), (0, 1)), ((0, 1), (1, 1), (1, 1)), ((0, 1), (0, 1), (1, 1)))
        self.assert_exact(regrounded(table_of(RING, 2), 0), told)

    def test_which_are_tables(self):
        for thing in (SQUARE, (((0, 1),),), (((-5, 3),),), table_of(EACH, 0), (((0, 1), (1, 2)), ((0, 1), (1, 1)))):
            self.assert_exact(is_table(thing), True)
        for thing in NOT_TABLES:
            self.assert_exact(is_table(thing), False, thing)
        wide = tuple((((1, 2),) * 15 for _ in range(15)))
        self.assert_exact((is_table(thing=wide), is_table(wide[:14])), (True, False))

    def test_by_definition(self):
        for table in (SQUARE, SQUARE[::-1], (((7, 2),),), table_of(EACH, 1)):
            many = len(table)
            for word in range(many):
                told = [[
                    fraction(table[x][y]) - fraction(table[word][y]) - fraction(table[x][word]) + fraction(table[word][word])
                    for y in range(many)] for x in range(many)]
                self.assert_exact(regrounded(table, word), tuple(tuple(as_pair(entry) for entry in row) for row in told))
            self.assert_exact(turned_over(table), tuple(zip(*table)))
            self.assert_exact(turned_over(turned_over(table)), table)
        self.assert_exact(regrounded((((7, 2),),), 0), (((0, 1),),))
        self.assert_exact(turned_over(SQUARE)[0], ((1, 2), (0, 1), (2, 5)))

    def test_tables_of_books(self):
        for book in SAMPLES + tuple(small_books(3, 5)) + tuple(random_books(107, 8, 10, 40)):
            for ground, word in product(range(book[0]), repeat=2):
                table = table_of(book, ground)
                self.assert_exact(regrounded(table, word), table_of(book, word))
                self.assert_exact(turned_over(table), table_of(backwards(book), ground))
                self.assert_exact(table_of(hung(book, word), ground), table)
        self.assert_exact((regrounded(table_of(ONE, 0), 0), turned_over(table_of(SINGLE, 0))), ((((0, 1),),), (((0, 1),),)))

    def test_refusals(self):
        wrong = {"table": NOT_TABLES, "word": NOT_NUMBERS + (3,)}
        self.assert_refused_in_order(regrounded, (("table", SQUARE), ("word", 0)), wrong)
        self.assert_refused_in_order(turned_over, (("table", SQUARE),), wrong)
        self.assert_not_usable("word", regrounded, (((7, 2),),), 1)
        self.assert_exact(regrounded(word=1, table=table_of(LOOSE, 0)), table_of(LOOSE, 1))
        self.assert_exact(turned_over(table=(((7, 2),),)), (((7, 2),),))
