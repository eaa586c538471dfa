from tests.books import (
    EACH, LOOSE, ODD_VALUES, ONE, PAIR, RING, SAMPLES, SINGLE, all_readings, has_find, plain_finds, random_books,
)
from tests.cases import NOT_NUMBERS, Case
from tests.test_nexts import NOT_FINDS
from tests.test_readings import NOT_READINGS
from unsewn.exits import exits_of
from unsewn.readingclasses import Reading

METHODS = ("leaves", "from_leaf", "index_of", "next_of", "exits", "has", "__eq__")
NOT_BOOKS = ODD_VALUES + (
    (2, ((0, 1),)), (2, ((0, 0), (1, 1))), (1, ()), list(RING), (3, list(RING[1])), (10 ** 59, ()), (3, RING[1], ()), ("3", RING[1]),
)


class TestReading(Case):
    def test_examples(self):
        ring = Reading(RING, (1, 2, 0))
        self.assert_exact((ring.next_of(0), ring.has((0, 1)), ring.from_leaf(0) == ring), (1, True, False))

    def test_it_tells_what_the_functions_tell(self):
        for book in SAMPLES + tuple(random_books(103, 8, 4, 7)):
            for first in range(len(book[1])):
                for row in all_readings(book, first)[:5]:
                    reading = Reading(book, row)
                    self.assert_exact((reading.leaves(), reading.exits()), (row, exits_of(book, row)))
                    for at, leaf in enumerate(row):
                        self.assert_exact(reading.index_of(leaf), at)
                        self.assert_exact(reading.next_of(leaf), (row + row)[at + 1])
                        turned = reading.from_leaf(leaf)
                        self.assertIs(turned.__class__, Reading)
                        self.assert_exact(turned.leaves(), row[at:] + row[:at])
                        self.assert_exact(turned == reading, at == 0)
                        self.assert_exact(turned.from_leaf(first) == reading, True)
                    for find in plain_finds(book):
                        self.assert_exact(reading.has(find), has_find(row, find))
                    self.assert_exact(reading.leaves(), row)

    def test_edges(self):
        single = Reading(SINGLE, (0,))
        told = (single.leaves(), single.index_of(0), single.next_of(0), single.exits(), single.from_leaf(0) == single)
        self.assert_exact(told, ((0,), 0, 0, ((0,),), True))
        self.assert_exact((Reading(ONE, (0, 2, 1)).has((1, 0)), Reading(ONE, (0, 2, 1)).has((0, 1))), (True, False))

    def test_equal(self):
        self.assert_exact((Reading(EACH, (0, 1, 2, 5, 4, 3)) == Reading(EACH, (0, 1, 2, 5, 4, 3))), True)
        self.assert_exact((Reading(EACH, (0, 1, 2, 5, 4, 3)) == Reading(EACH, (0, 1, 4, 3, 5, 2))), False)
        self.assert_exact((Reading(RING, (0, 1, 2)) == Reading(RING, (1, 2, 0)), Reading(RING, (0, 1, 2)) != Reading(RING, (1, 2, 0))),
                          (False, True))
        # Equal leaves of different books.
        self.assert_exact(Reading(ONE, (0, 1, 2)) == Reading(RING, (0, 1, 2)), False)
        for other in ODD_VALUES + ((0, 1, 2), RING, Reading):
            reading = Reading(RING, (0, 1, 2))
            self.assert_exact((reading == other, other == reading, reading != other), (False, False, True))

    def test_each_method_stands_in_the_class(self):
        for name in METHODS:
            self.assertIn(name, vars(Reading))

    def test_refusals(self):
        for book in NOT_BOOKS:
            self.assert_not_usable("book", Reading, book, (0, 1, 2))
            self.assert_not_usable("book", Reading, book, None)
        for leaves in NOT_READINGS:
            self.assert_not_usable("leaves", Reading, RING, leaves)
        reading = Reading(leaves=(0, 2, 4, 1, 3), book=LOOSE)
        for wrong in NOT_NUMBERS + (5,):
            self.assert_not_usable("first", reading.from_leaf, wrong)
            self.assert_not_usable("leaf", reading.index_of, wrong)
            self.assert_not_usable("leaf", reading.next_of, wrong)
        for wrong in NOT_FINDS + ODD_VALUES:
            if wrong != (0, 1):
                self.assert_not_usable("find", reading.has, wrong)
        self.assert_not_usable("find", reading.has, (0, 4))
        self.assert_not_usable("find", Reading(PAIR, (0, 1)).has, (0, 0))
        told = (reading.from_leaf(first=1).leaves(), reading.index_of(leaf=4), reading.next_of(leaf=3), reading.has(find=(3, 0)))
        self.assert_exact(told, ((1, 3, 0, 2, 4), 2, 0, True))
