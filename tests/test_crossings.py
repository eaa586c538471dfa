import random
from itertools import combinations, permutations

from tests.books import EACH, LOOSE, ONE, RING, SAMPLES, SINGLE, all_readings, comes, random_books, rolls_plainly, small_books, threes
from tests.cases import NOT_LOTS, NOT_THREES, Case
from tests.test_readings import NOT_READINGS
from unsewn.chordtables import free_lots, is_free, pivoted, rank_on
from unsewn.crossings import are_twofold, crossings, types_of
from unsewn.exchanging import reading_after, rolls_after
from unsewn.orders import order_count

DOUBLE = (1, ((0, 0), (0, 0)))
BOTH_WAYS = (2, ((0, 1), (1, 0), (0, 1), (1, 0)))


def twofold_book(rng, size):
    """A book of the size in which every word has the fan two."""
    while True:
        firsts = [word for word in range(size) for _ in range(2)]
        catchwords = list(firsts)
        rng.shuffle(firsts)
        rng.shuffle(catchwords)
        book = (size, tuple(zip(firsts, catchwords)))
        if all_hang(book):
            return book


def all_hang(book):
    lot = {0}
    for _ in range(book[0]):
        for first, catchword in book[1]:
            if first in lot or catchword in lot:
                lot |= {first, catchword}
    return len(lot) == book[0]


RNG = random.Random(70)
TWOFOLD = tuple(
    book for book in small_books(3, 6) if all([leaf[0] for leaf in book[1]].count(word) == 2 for word in range(book[0]))
) + (EACH, DOUBLE, BOTH_WAYS) + tuple(twofold_book(RNG, size) for size in (3, 4, 4, 4, 5, 5))


def lots(size):
    return [lot for many in range(size + 1) for lot in combinations(range(size), many)]


def plain_crossings(book, reading):
    """By word, by word, whether their leaves come by turns in the reading."""
    words = [book[1][leaf][0] for leaf in reading]
    rows = []
    for x in range(book[0]):
        turns = [[word for word in words if word in (x, y)] for y in range(book[0])]
        rows.append(tuple(int(x != y and turns[y] in ([x, y, x, y], [y, x, y, x])) for y in range(book[0])))
    return tuple(rows)


class TestCrossings(Case):
    def test_examples(self):
        reading = (0, 1, 2, 5, 4, 3)
        self.assert_exact(crossings(EACH, reading), ((0, 1, 1), (1, 0, 0), (1, 0, 0)))
        self.assert_exact(types_of(EACH, reading, (0, 1, 2)), ((0, 0), (1, 0), (0, 1)))

    def test_which_are_twofold(self):
        for book in TWOFOLD:
            self.assert_exact(are_twofold(book), True)
        for book in (RING, LOOSE, ONE, SINGLE, (2, ((0, 0), (0, 1), (1, 0))), (2, ((0, 1), (1, 0), (1, 1)))):
            self.assert_exact(are_twofold(book), False)
        for book in random_books(71, 10, 10, 40):
            self.assert_exact(are_twofold(book), all([leaf[0] for leaf in book[1]].count(word) == 2 for word in range(book[0])))
        self.assert_exact(are_twofold(book=DOUBLE), True)

    def test_crossings(self):
        found = {0: 0, 1: 0}
        for book in TWOFOLD:
            for reading in all_readings(book, len(book[1]) // 2):
                told = plain_crossings(book, reading)
                self.assert_exact(crossings(book, reading), told)
                # Which words cross hangs on the ring alone.
                self.assert_exact(crossings(book, reading[1:] + reading[:1]), told)
                for row in told:
                    for entry in row:
                        found[entry] += 1
        self.assertTrue(min(found.values()) > 50, found)
        self.assert_exact(crossings(DOUBLE, (1, 0)), ((0,),))
        self.assert_exact(crossings(BOTH_WAYS, (0, 1, 2, 3)), ((0, 1), (1, 0)))

    def test_types(self):
        found = set()
        for book in TWOFOLD:
            for a, b, c in list(threes(book))[::3]:
                for reading in all_readings(book, a):
                    turned = reading[2:] + reading[:2]
                    if not comes(reading, (a, b, c)):
                        self.assert_not_usable("three", types_of, book, turned, (a, b, c))
                        continue
                    parts = reading[1:reading.index(b) + 1], reading[reading.index(b) + 1:reading.index(c) + 1]
                    told = tuple(
                        tuple(int([book[1][leaf][0] for leaf in part].count(word) == 1) for part in parts) for word in range(book[0]))
                    self.assert_exact(types_of(book, turned, (a, b, c)), told)
                    found.update(told)
        self.assertEqual(found, {(0, 0), (0, 1), (1, 0), (1, 1)})

    def test_refusals(self):
        reading = (0, 1, 2, 5, 4, 3)
        wrong = {"reading": NOT_READINGS + ((0, 1, 2), (0, 1, 2, 3, 4, 5)), "three": NOT_THREES + ((0, 2, 1), (1, 0, 2))}
        good = (("book", EACH), ("reading", reading), ("three", (0, 1, 2)))
        self.assert_refused_in_order(crossings, good[:2], wrong)
        self.assert_refused_in_order(types_of, good, wrong)
        for book in (RING, LOOSE, ONE):
            self.assert_not_usable("book", crossings, book, None)
            self.assert_not_usable("book", types_of, book, None, None)
            self.assert_not_usable("book", types_of, book, tuple(range(len(book[1]))), (0, 1, 2))
        self.assert_exact(crossings(reading=(0, 1), book=DOUBLE), ((0,),))
        self.assert_exact(types_of(three=(1, 2, 0), reading=reading, book=EACH), ((0, 0), (0, 1), (1, 1)))


class TestExchanging(Case):
    def test_examples(self):
        reading = (0, 1, 2, 5, 4, 3)
        self.assert_exact(rolls_after(EACH, reading, (1,)), ((0, 3), (1, 2, 5, 4)))
        self.assert_exact(reading_after(EACH, reading, (0, 1)), (0, 3, 5, 4, 1, 2))

    def exchange(self, book, reading, lot):
        """The pairing behind the exchange, by the definition."""
        behind = {leaf: reading[(at + 1) % len(reading)] for at, leaf in enumerate(reading)}
        for word in lot:
            one, other = [leaf for leaf in range(len(book[1])) if book[1][leaf][1] == word]
            behind[one], behind[other] = behind[other], behind[one]
        return tuple(behind[leaf] for leaf in range(len(book[1])))

    def test_against_the_definition(self):
        for book in TWOFOLD:
            for reading in all_readings(book, 1)[:6]:
                table = crossings(book, reading)
                for lot in lots(book[0]):
                    rolls = rolls_plainly(self.exchange(book, reading, lot))
                    self.assert_exact(rolls_after(book, reading, lot), rolls)
                    self.assertEqual(len(rolls), 1 + len(lot) - rank_on(table, lot))
                    told = None
                    if len(rolls) == 1:
                        at = rolls[0].index(reading[0])
                        told = rolls[0][at:] + rolls[0][:at]
                    self.assert_exact(reading_after(book, reading, lot), told)
                self.assert_exact(reading_after(book, reading, ()), reading)

    def test_all_readings_by_free_lots(self):
        for book in TWOFOLD:
            readings = all_readings(book, 0)
            for reading in readings[:4]:
                table = crossings(book, reading)
                self.assertEqual(sorted(reading_after(book, reading, lot) for lot in free_lots(table)), readings)

    def test_pivots(self):
        for book in TWOFOLD:
            for reading in all_readings(book, 0)[:6]:
                table = crossings(book, reading)
                for one, other in permutations(range(book[0]), 2):
                    if table[one][other] == 1:
                        lot = tuple(sorted((one, other)))
                        after = reading_after(book, reading, lot)
                        self.assert_exact(crossings(book, after), pivoted(table, one, other))

    def test_the_other_order_by_two_chords_more(self):
        rng = random.Random(72)
        for book in [book for book in TWOFOLD if len(book[1]) > 2]:
            for three in rng.sample(list(threes(book)), 4):
                for reading in [reading for reading in all_readings(book, three[0]) if comes(reading, three)][:3]:
                    told = types_of(book, reading, three)
                    table = [row + kind for row, kind in zip(crossings(book, reading), told)]
                    table += [tuple(kind[which] for kind in told) + (0, 0) for which in (0, 1)]
                    size = book[0]
                    free = [
                        lot for lot in free_lots(crossings(book, reading)) if is_free(tuple(table), lot + (size, size + 1))]
                    self.assertEqual(order_count(book, (three[0], three[2], three[1])), len(free))

    def test_refusals(self):
        reading = (0, 1, 2, 5, 4, 3)
        wrong = {"reading": NOT_READINGS + ((0, 1, 2), (0, 1, 2, 3, 4, 5)), "lot": NOT_LOTS}
        for call in (rolls_after, reading_after):
            self.assert_refused_in_order(call, (("book", EACH), ("reading", reading), ("lot", (1,))), wrong)
            for book in (RING, LOOSE, ONE):
                self.assert_not_usable("book", call, book, None, None)
                self.assert_not_usable("book", call, book, tuple(range(len(book[1]))), ())
        self.assert_exact(rolls_after(lot=(), reading=(0, 1), book=DOUBLE), ((0, 1),))
        self.assert_exact(reading_after(lot=(0,), reading=(0, 1), book=DOUBLE), None)
        self.assert_exact(rolls_after(lot=(0,), reading=(0, 1), book=DOUBLE), ((0,), (1,)))
