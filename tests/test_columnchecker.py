from fractions import Fraction
from itertools import product

from tests.books import (
    EACH, LOOSE, ODD_VALUES, ONE, RING, SAMPLES, SINGLE, all_trees, as_pair, fraction, random_books, small_books,
)
from tests.cases import NOT_NUMBERS, Case
from unsewn.columnchecker import lets_column
from unsewn.errors import InvalidPaper
from unsewn.tables import column_of, table_of
from unsewn.tablechecker import lets_table

NOT_QUOTIENTS = (
    None, 1, 0, True, "0/1", (1,), (1, 2, 3), [0, 1], (2, 4), (0, 2), (1, 0), (1, -1), (True, 1), (1, True), ("1", 1), ((0, 1),),
)
BOOKS = SAMPLES + tuple(small_books(3, 4)) + tuple(random_books(104, 12, 6, 14))


def plain_fault(book, ground, word, column):
    """The first fault of a column by the definition; None without one."""
    if column[ground] != (0, 1):
        return ("ground", ground)
    for x in range(book[0]):
        begin = [leaf for leaf in book[1] if leaf[0] == x]
        left = len(begin) * fraction(column[x]) - sum(fraction(column[leaf[1]]) for leaf in begin)
        if left != (0 if word == ground else (x == word) - (x == ground)):
            return ("sum", x)
    return None


def some_columns(book, ground, word):
    """Columns near the right one, and others."""
    right = column_of(book, ground, word)
    yield right
    for at in range(book[0]):
        for more in (Fraction(1), Fraction(-1, 2), -fraction(right[at])):
            yield right[:at] + (as_pair(fraction(right[at]) + more),) + right[at + 1:]
    yield tuple(as_pair(fraction(entry) + 1) for entry in right)
    yield ((0, 1),) * book[0]
    yield ((1, 1),) * book[0]
    for other in range(book[0]):
        yield column_of(book, ground, other)
        yield column_of(book, other, word)


class TestColumnChecker(Case):
    def assert_invalid(self, word, at, call, *args):
        with self.assertRaises(InvalidPaper) as caught:
            call(*args)
        self.assert_exact((caught.exception.word, caught.exception.at), (word, at), args)

    def test_examples(self):
        self.assert_exact(lets_column(RING, 2, 1, ((1, 1), (1, 1), (0, 1))), (1, 1))
        self.assert_invalid("sum", 0, lets_column, RING, 2, 1, ((0, 1), (1, 1), (0, 1)))

    def test_edges(self):
        for book in (ONE, SINGLE):
            self.assert_exact(lets_column(book, 0, 0, ((0, 1),)), (0, 1))
            self.assert_invalid("ground", 0, lets_column, book, 0, 0, ((1, 1),))
        # The ground's own column is nought; else its sums are wrong, or it is not nought at the ground.
        self.assert_exact(lets_column(LOOSE, 1, 1, ((0, 1), (0, 1))), (0, 1))
        self.assert_invalid("sum", 0, lets_column, LOOSE, 1, 1, ((1, 2), (0, 1)))
        self.assert_invalid("ground", 1, lets_column, LOOSE, 1, 1, ((1, 1), (1, 1)))
        self.assert_invalid("ground", 1, lets_column, LOOSE, 1, 0, ((1, 2), (1, 2)))
        # The ground's sum is looked at in its turn.
        self.assert_invalid("sum", 0, lets_column, LOOSE, 0, 1, ((0, 1), (1, 1)))
        self.assert_invalid("sum", 1, lets_column, RING, 0, 2, ((0, 1), (1, 1), (2, 1)))
        self.assert_exact(lets_column(LOOSE, 0, 1, ((0, 1), (1, 2))), (1, 2))

    def test_near_columns(self):
        words = set()
        for book in BOOKS:
            for ground, word in product(range(book[0]), repeat=2):
                for column in some_columns(book, ground, word):
                    told = plain_fault(book, ground, word, column)
                    words.add(told and told[0])
                    if told is None:
                        self.assert_exact(column, column_of(book, ground, word))
                        self.assert_exact(lets_column(book, ground, word, column), column[word])
                    else:
                        self.assert_invalid(*told, lets_column, book, ground, word, column)
        self.assertEqual(words, {None, "ground", "sum"})

    def test_large_books(self):
        for book in random_books(105, 6, 10, 40):
            for ground, word in product(range(book[0]), repeat=2):
                column = column_of(book, ground, word)
                self.assert_exact(lets_column(book, ground, word, column), column[word])

    def test_a_thousand_figures(self):
        large = (10 ** 999 + 1, 10 ** 999)
        self.assert_invalid("sum", 0, lets_column, EACH, 2, 1, (large, large, (0, 1)))
        self.assert_invalid("ground", 2, lets_column, EACH, 2, 1, (large, large, large))

    def test_kind(self):
        right = ((1, 1), (1, 1), (0, 1))
        for thing in ODD_VALUES + NOT_QUOTIENTS + (right[:2], right + ((0, 1),), list(right), (right,), right[:2] + ([0, 1],)):
            self.assert_invalid("kind", -1, lets_column, RING, 2, 1, thing)
        for wrong in NOT_QUOTIENTS:
            for at in range(3):
                self.assert_invalid("kind", -1, lets_column, RING, 2, 1, right[:at] + (wrong,) + right[at + 1:])

    def test_refusals(self):
        good = (("book", RING), ("ground", 2), ("word", 1), ("thing", None))
        self.assert_refused_in_order(lets_column, good, {"ground": NOT_NUMBERS + (3,), "word": NOT_NUMBERS + (3,)})
        self.assert_exact(lets_column(thing=((1, 1), (1, 1), (0, 1)), word=1, ground=2, book=RING), (1, 1))


class TestTableChecker(Case):
    def assert_invalid(self, word, at, *args):
        with self.assertRaises(InvalidPaper) as caught:
            lets_table(*args)
        self.assert_exact((caught.exception.word, caught.exception.at), (word, at), args)

    def test_examples(self):
        self.assert_invalid("sum", (0, 1), LOOSE, 1, (((1, 2), (1, 1)), ((0, 1), (0, 1))))

    def test_right_tables(self):
        for book in BOOKS + tuple(random_books(106, 6, 10, 40)):
            for ground in range(book[0]):
                self.assert_exact(lets_table(book, ground, table_of(book, ground)), book[0])

    def test_wrong_tables(self):
        words = set()
        for book in BOOKS:
            for ground, x, y in product(range(book[0]), repeat=3):
                table = [list(row) for row in table_of(book, ground)]
                for more in (Fraction(1), Fraction(-1, 3)):
                    table[x][y] = as_pair(fraction(table[x][y]) + more)
                    thing = tuple(tuple(row) for row in table)
                    word, at = plain_fault(book, ground, y, tuple(row[y] for row in table))
                    words.add(word)
                    self.assert_invalid(word, (at, y), book, ground, thing)
                    self.assertEqual(word == "ground", x == ground)
        self.assertEqual(words, {"ground", "sum"})

    def test_column_by_column(self):
        # Column 0 is wrong by its sums, column 1 at the ground: the first one is told, each whole ahead of the next.
        table = [list(row) for row in table_of(EACH, 2)]
        table[1][0] = (5, 1)
        table[2][1] = (1, 1)
        self.assert_invalid("sum", (0, 0), EACH, 2, tuple(tuple(row) for row in table))
        table[2][0] = (1, 1)
        self.assert_invalid("ground", (2, 0), EACH, 2, tuple(tuple(row) for row in table))
        table = [list(row) for row in table_of(EACH, 2)]
        table[2][2] = (1, 1)
        self.assert_invalid("ground", (2, 2), EACH, 2, tuple(tuple(row) for row in table))
        table[2][2] = (0, 1)
        table[1][2] = (1, 1)
        self.assert_invalid("sum", (0, 2), EACH, 2, tuple(tuple(row) for row in table))

    def test_another_ground(self):
        for book in (RING, EACH, LOOSE):
            for ground, other in product(range(book[0]), repeat=2):
                if ground != other:
                    with self.assertRaises(InvalidPaper):
                        lets_table(book, ground, table_of(book, other))

    def test_there_is_just_one(self):
        # All tables of few quotients: the checker lets through the one alone.
        some = ((0, 1), (1, 1), (1, 2), (-1, 1))
        for book in (LOOSE, (2, ((0, 1), (1, 0)))):
            for ground in range(2):
                for a, b, c, d in product(some, repeat=4):
                    thing = ((a, b), (c, d))
                    if thing == table_of(book, ground):
                        self.assert_exact(lets_table(book, ground, thing), 2)
                    else:
                        with self.assertRaises(InvalidPaper):
                            lets_table(book, ground, thing)

    def test_kind(self):
        right = table_of(RING, 2)
        for thing in ODD_VALUES + (
            right[:2], right + right[:1], list(right), (list(right[0]),) + right[1:], (right[0][:2],) + right[1:],
            (right[0] + ((0, 1),),) + right[1:], right[0], tuple(row[:2] for row in right), (right,),
        ) + tuple((right[0], (wrong,) + right[1][1:], right[2]) for wrong in NOT_QUOTIENTS):
            self.assert_invalid("kind", -1, RING, 2, thing)

    def test_trees(self):
        for book in (RING, EACH, LOOSE):
            for ground in range(book[0]):
                trees = len(all_trees(book, ground))
                for row in table_of(book, ground):
                    self.assertTrue(all((trees * entry[0]) % entry[1] == 0 for entry in row))

    def test_refusals(self):
        good = (("book", RING), ("ground", 2), ("thing", None))
        self.assert_refused_in_order(lets_table, good, {"ground": NOT_NUMBERS + (3,)})
        self.assert_exact(lets_table(thing=table_of(RING, 2), ground=2, book=RING), 3)
