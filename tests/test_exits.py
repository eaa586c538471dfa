from itertools import permutations, product

from tests.books import EACH, LOOSE, ODD_VALUES, ONE, PAIR, RING, SAMPLES, SINGLE, all_readings, all_trees, random_books, small_books
from tests.cases import NOT_NUMBERS, Case
from tests.test_readings import NOT_READINGS
from unsewn.exits import exits_of, is_exits, reading_by

NOT_EXITS = ODD_VALUES + (
    ((1, 2, 3),), ((1, 2, 3), (0, 4), ()), ((1, 2, 3), (0, 0)), ((1, 2), (0, 4)), ((1, 2, 3, 3), (0, 4)), ((0, 4), (1, 2, 3)),
    [(2, 1, 3), (0, 4)], ([2, 1, 3], (0, 4)), ((2, True, 3), (0, 4)), ((2, 1, 3), (False, 4)), ((2, 1, None), (0, 4)),
    ((2, 1, "3"), (0, 4)), ((2, 3, 1), (0, 4)), ((2, 1, 3), (4, 0)), ((2, 1, 99), (0, 4)), ((2, 1, -1), (0, 4)), ((), ()),
    (None, (0, 4)), (7, 8),
)


def plain_exits(book, reading):
    return tuple(tuple(leaf for leaf in reading if book[1][leaf][0] == word) for word in range(book[0]))


def all_arrangements(book):
    begin = [[i for i, leaf in enumerate(book[1]) if leaf[0] == word] for word in range(book[0])]
    return product(*[list(permutations(row)) for row in begin])


class TestExits(Case):
    def test_examples(self):
        self.assert_exact(exits_of(LOOSE, (0, 2, 4, 1, 3)), ((2, 1, 3), (0, 4)))
        self.assert_exact(is_exits(LOOSE, 0, ((2, 3, 1), (0, 4))), False)
        self.assert_exact(reading_by(LOOSE, 0, ((1, 3, 2), (0, 4))), (0, 1, 3, 4, 2))

    def test_edges(self):
        self.assert_exact((exits_of(SINGLE, (0,)), reading_by(SINGLE, 0, ((0,),))), (((0,),), (0,)))
        self.assert_exact((exits_of(ONE, (1, 2, 0)), reading_by(ONE, 1, ((1, 2, 0),))), (((1, 2, 0),), (1, 2, 0)))
        self.assert_exact((exits_of(PAIR, (1, 0)), exits_of(RING, (2, 0, 1))), (((0,), (1,)), ((0,), (1,), (2,))))
        # They depend on the first leaf.
        self.assert_exact(exits_of(LOOSE, (4, 1, 3, 0, 2)), ((1, 3, 2), (4, 0)))

    def test_exits_and_readings_undo_each_other(self):
        for book in SAMPLES + tuple(small_books(3, 5)) + tuple(random_books(27, 15, 5, 7)):
            for first in range(len(book[1])):
                for reading in all_readings(book, first):
                    exits = exits_of(book, reading)
                    self.assert_exact(exits, plain_exits(book, reading))
                    self.assert_exact(is_exits(book, first, exits), True)
                    self.assert_exact(reading_by(book, first, exits), reading)

    def test_which_are_exits(self):
        for book in SAMPLES + tuple(small_books(3, 5)):
            for first in range(len(book[1])):
                told = {plain_exits(book, reading) for reading in all_readings(book, first)}
                home = book[1][first][0]
                trees = all_trees(book, home)
                for thing in all_arrangements(book):
                    self.assert_exact(is_exits(book, first, thing), thing in told)
                    lasts = tuple(None if word == home else row[-1] for word, row in enumerate(thing))
                    self.assertEqual(thing in told, thing[home][0] == first and lasts in trees)

    def test_any_value(self):
        for thing in NOT_EXITS:
            self.assert_exact(is_exits(LOOSE, 0, thing), False, thing)
        self.assert_exact((is_exits(EACH, 0, ()), is_exits(SINGLE, 0, ((),)), is_exits(SINGLE, 0, ((False,),))), (False,) * 3)

    def test_refusals(self):
        wrong = NOT_NUMBERS + (5,)
        good = (("book", LOOSE), ("first", 0), ("exits", ((2, 1, 3), (0, 4))))
        self.assert_refused_in_order(reading_by, good, {"first": wrong, "exits": NOT_EXITS})
        self.assert_not_usable("exits", reading_by, LOOSE, 4, ((2, 1, 3), (0, 4)))
        for first in wrong:
            self.assert_not_usable("first", is_exits, LOOSE, first, ((2, 1, 3), (0, 4)))
            self.assert_not_usable("first", is_exits, LOOSE, first, None)
        self.assert_refused_in_order(exits_of, (("book", RING), ("reading", (0, 1, 2))), {"reading": NOT_READINGS})
        self.assert_exact(is_exits(thing=((2, 1, 3), (0, 4)), first=0, book=LOOSE), True)
        self.assert_exact(reading_by(exits=((2, 1, 3), (0, 4)), first=0, book=LOOSE), (0, 2, 4, 1, 3))
