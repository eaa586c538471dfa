import random
from itertools import permutations

from tests.books import (
    EACH, LOOSE, ODD_VALUES, ONE, PAIR, RING, SAMPLES, all_readings, comes, random_book, random_books, small_books, threes,
)
from tests.cases import NOT_THREES, Case
from unsewn.counts import reading_count
from unsewn.errors import InvalidPaper
from unsewn.orders import order_count
from unsewn.readings import is_reading
from unsewn.surely import is_sure
from unsewn.ways import are_ways, spliced, ways_of
from unsewn.wayschecker import lets_ways

BOOKS = SAMPLES + tuple(small_books(3, 5)) + tuple(random_books(62, 14, 4, 7))
GOOD = ((1, 2), (4,), ())


def are_plain_ways(book, three, ways):
    """Whether a triple of tuples of leaves is ways of three, by the definition."""
    a, b, c = three
    stood = [leaf for way in ways for leaf in way] + list(three)
    for (one, other), way in zip(((a, c), (c, b), (b, a)), ways):
        words = [book[1][one][1]] + [book[1][leaf][1] for leaf in way]
        if [book[1][leaf][0] for leaf in way] + [book[1][other][0]] != words:
            return False
    return len(set(stood)) == len(stood)


def some_ways(book, three, rng):
    """Three tuples of leaves: ways of three cut of a reading, and as often as not changed somewhere."""
    a, b, c = three
    readings = [reading for reading in all_readings(book, a) if comes(reading, (a, c, b))]
    row = rng.choice(readings) if readings else rng.choice(all_readings(book, a))
    at, end = sorted((row.index(c), row.index(b)))
    ways = [row[1:at], row[at + 1:end], row[end + 1:]]
    if rng.random() < 0.7:
        which = rng.randrange(3)
        leaves = list(ways[which])
        change = rng.randrange(3)
        if change == 0 and leaves:
            del leaves[rng.randrange(len(leaves))]
        elif change == 1:
            leaves.insert(rng.randrange(len(leaves) + 1), rng.randrange(len(book[1])))
        elif leaves:
            start = rng.randrange(len(leaves))
            del leaves[start:rng.randrange(start, len(leaves)) + 1]
        ways[which] = tuple(leaves)
    return tuple(ways)


class TestChecker(Case):
    def assert_invalid(self, word, at, book, three, thing):
        with self.assertRaises(InvalidPaper) as caught:
            lets_ways(book, three, thing)
        self.assert_exact((caught.exception.word, caught.exception.at), (word, at), thing)
        self.assert_exact(are_ways(book, three, thing), False)

    def test_examples(self):
        three = (0, 3, 5)
        self.assert_exact((are_ways(EACH, three, GOOD), are_ways(ONE, (0, 1, 2), ((), (), ()))), (True, True))
        self.assert_exact(lets_ways(EACH, three, GOOD), 3)
        self.assert_invalid("used", (1, 0), EACH, three, ((1, 2), (2,), ()))
        self.assert_invalid("step", (0, 0), EACH, three, ((2,), (4,), (0,)))
        self.assert_invalid("end", 0, EACH, three, ((1, 4), (1,), ()))

    def test_kind(self):
        for thing in ODD_VALUES + (
            list(GOOD), GOOD[:2], GOOD + ((),), (list(GOOD[0]),) + GOOD[1:], ((1, True),) + GOOD[1:], ((1, 6),) + GOOD[1:], (1, 2, 4),
            ((1, -2),) + GOOD[1:], ((1, "2"),) + GOOD[1:], GOOD[:2] + (None,), GOOD[:2] + ((99,),), (((1,), 2),) + GOOD[1:], "abc",
        ):
            self.assert_invalid("kind", -1, EACH, (0, 3, 5), thing)
        self.assert_exact(lets_ways(ONE, (0, 1, 2), ((), (), ())), 0)

    def test_used(self):
        three = (0, 3, 5)
        for leaf in three:
            self.assert_invalid("used", (0, 1), EACH, three, ((1, leaf), (4,), ()))
            self.assert_invalid("used", (2, 0), EACH, three, GOOD[:2] + ((leaf,),))
        self.assert_invalid("used", (0, 2), EACH, three, ((1, 2, 1), (4,), ()))
        self.assert_invalid("used", (0, 1), EACH, three, ((1, 1), (4,), ()))
        self.assert_invalid("used", (2, 0), EACH, three, ((1, 2), (4,), (4,)))
        # Of one leaf, that it stood comes ahead of its step; of two, the one ahead comes first.
        self.assert_invalid("used", (0, 0), EACH, three, ((3, 1), (4,), ()))
        self.assert_invalid("step", (0, 0), EACH, three, ((2, 2), (4,), ()))

    def test_step_and_end(self):
        three = (0, 3, 5)
        self.assert_invalid("step", (0, 2), EACH, three, ((1, 2, 4), (), ()))
        self.assert_invalid("end", 0, EACH, three, ((), (4,), ()))
        self.assert_invalid("end", 1, EACH, three, ((1, 2), (), ()))
        self.assert_exact(lets_ways(LOOSE, (0, 1, 2), ((), (4,), (3,))), 2)
        self.assert_invalid("step", (1, 0), LOOSE, (0, 1, 2), ((), (3,), ()))
        self.assert_invalid("end", 1, LOOSE, (0, 1, 2), ((), (4, 3), ()))
        self.assert_invalid("end", 2, LOOSE, (0, 1, 2), ((), (4,), ()))
        # What is behind a way comes ahead of the next way.
        self.assert_invalid("end", 0, EACH, three, ((1,), (0,), (3,)))
        self.assert_invalid("end", 0, EACH, three, ((), (4,), (4,)))

    def test_against_the_definition(self):
        rng = random.Random(63)
        words = {}
        for book in BOOKS:
            every = list(threes(book))
            for three in rng.sample(every, min(len(every), 8)):
                for _ in range(4):
                    ways = some_ways(book, three, rng)
                    told = are_plain_ways(book, three, ways)
                    self.assert_exact(are_ways(book, three, ways), told, (book, three, ways))
                    if told:
                        self.assert_exact(lets_ways(book, three, ways), sum(map(len, ways)))
                    else:
                        with self.assertRaises(InvalidPaper) as caught:
                            lets_ways(book, three, ways)
                        words[caught.exception.word] = words.get(caught.exception.word, 0) + 1
        self.assertEqual(sorted(words), ["end", "step", "used"])
        self.assertTrue(min(words.values()) > 20, words)

    def test_refusals(self):
        for call in (lets_ways, are_ways):
            good = (("book", EACH), ("three", (0, 3, 5)), ("thing", GOOD))
            self.assert_refused_in_order(call, good, {"three": NOT_THREES})
            self.assert_not_usable("three", call, PAIR, (0, 1, 0), None)
        self.assert_exact(are_ways(thing=GOOD, three=(0, 3, 5), book=EACH), True)
        self.assert_exact(lets_ways(thing=GOOD, three=(0, 3, 5), book=EACH), 3)


class TestWays(Case):
    def check_spliced(self, book, three, ways):
        a, b, c = three
        reading = spliced(book, three, ways)
        self.assertEqual(reading.__class__, tuple)
        self.assertTrue(is_reading(book, reading) and reading[0] == a and comes(reading, (a, c, b)), (book, three, ways))
        at, end = reading.index(c), reading.index(b)
        for way, part in zip(ways, (reading[1:at], reading[at + 1:end], reading[end + 1:])):
            self.assertEqual(tuple(leaf for leaf in part if leaf in way), way)

    def test_examples(self):
        self.assert_exact((ways_of(EACH, (0, 3, 5)), ways_of(EACH, (0, 1, 2))), (GOOD, None))
        self.assert_exact(spliced(LOOSE, (0, 1, 2), ((), (4,), (3,))), (0, 2, 4, 1, 3))
        self.assert_not_usable("ways", spliced, EACH, (0, 3, 5), ((1, 2), (), ()))

    def test_ways_exactly_if_not_sure(self):
        found = {True: 0, False: 0}
        for book in BOOKS:
            for three in threes(book):
                ways = ways_of(book, three)
                told = any(not comes(reading, three) for reading in all_readings(book, three[0]))
                found[told] += 1
                self.assertEqual(ways is not None, told)
                self.assertEqual(told, order_count(book, (three[0], three[2], three[1])) > 0)
                if told:
                    self.assertEqual([ways.__class__, len(ways)] + [way.__class__ for way in ways], [tuple, 3] + [tuple] * 3)
                    self.assertTrue(are_plain_ways(book, three, ways))
                    self.check_spliced(book, three, ways)
        self.assertTrue(min(found.values()) > 100, found)

    def test_other_leaves_stand_between(self):
        rng = random.Random(64)
        short = 0
        for book in BOOKS:
            every = list(threes(book))
            for three in rng.sample(every, min(len(every), 8)):
                for _ in range(6):
                    ways = some_ways(book, three, rng)
                    if are_plain_ways(book, three, ways):
                        short += sum(map(len, ways)) < len(book[1]) - 3
                        self.check_spliced(book, three, ways)
        self.assertTrue(short > 50, short)

    def test_empty_ways(self):
        for many in (3, 6):
            book = (1, ((0, 0),) * many)
            for three in list(permutations(range(many), 3))[::7]:
                self.check_spliced(book, three, ((), (), ()))
        self.assert_exact(spliced(ONE, (2, 0, 1), ((), (), ())), (2, 1, 0))

    def test_twenty_leaves(self):
        rng = random.Random(65)
        found = 0
        for _ in range(30):
            book = random_book(rng, rng.randrange(1, 11), 20)
            three = tuple(rng.sample(range(20), 3))
            ways = ways_of(book, three)
            self.assertEqual(ways is None, is_sure(book, three))
            if ways is not None:
                found += 1
                self.assertEqual(lets_ways(book, three, ways), sum(map(len, ways)))
                self.check_spliced(book, three, ways)
                self.assertTrue(reading_count(book) > 1)
        self.assertTrue(found > 15, found)

    def test_refusals(self):
        self.assert_refused_in_order(ways_of, (("book", EACH), ("three", (0, 3, 5))), {"three": NOT_THREES})
        wrong = ODD_VALUES + (list(GOOD), GOOD[:2], ((1, 2), (2,), ()), ((2,), (4,), ()), ((1, True), (4,), ()), (GOOD,))
        good = (("book", EACH), ("three", (0, 3, 5)), ("ways", GOOD))
        self.assert_refused_in_order(spliced, good, {"three": NOT_THREES, "ways": wrong})
        self.assert_not_usable("ways", spliced, RING, (0, 1, 2), ((), (), ()))
        self.assert_exact(spliced(ways=GOOD, three=(0, 3, 5), book=EACH), (0, 1, 2, 5, 4, 3))
        self.assert_exact(ways_of(three=(0, 1, 2), book=RING), None)
