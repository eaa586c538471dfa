import random
from itertools import product

from tests.books import (
    EACH, LOOSE, ODD_VALUES, ONE, PAIR, RING, plain_finds, random_book, random_books, small_books, threes,
)
from tests.cases import NOT_THREES, Case
from tests.test_maps import all_rounds_of, is_plain_map, partings
from tests.test_nexts import NOT_FINDS
from unsewn.aftermaps import map_after, three_after
from unsewn.cutting import cut_book
from unsewn.errors import Torn
from unsewn.glueing import count_with, glued
from unsewn.lands import mirrored
from unsewn.mapchecker import lets_map
from unsewn.maps import map_of
from unsewn.surely import is_sure, sure_pairs

CHART = (((0,), (1,), (2,), (3,), (4,), (5,)), ((0, 3, 5, 8), (1, 4, 3, 6), (2, 5, 4, 7), (6, 0), (7, 1), (8, 2)))
TEARING = (2, ((0, 0), (0, 1), (1, 0)))


def fan_between(book, find):
    return [leaf[0] for leaf in book[1]].count(book[1][find[1]][0])


class TestThreeAfter(Case):
    def test_examples(self):
        self.assert_exact((three_after(EACH, (1, 2, 3), (4, 1)), three_after(EACH, (1, 2, 4), (4, 1))), ((3, 1, 2), None))

    def test_against_the_rows(self):
        found = {"torn": 0, "one": 0, "three": 0}
        for book in (RING, EACH, LOOSE, ONE, TEARING) + tuple(small_books(3, 4)) + tuple(random_books(87, 10, 4, 6)):
            for find in plain_finds(book):
                for three in list(threes(book))[::2]:
                    if count_with(book, (find,)) == 0:
                        found["torn"] += 1
                        with self.assertRaises(Torn) as caught:
                            three_after(book, three, find)
                        self.assert_exact(vars(caught.exception), {"finds": (find,)})
                        continue
                    rows = glued(book, find)[1]
                    gone = tuple(at for leaf in three for at, row in enumerate(rows) if leaf in row)
                    told = gone if find[0] not in three or find[1] not in three else None
                    found["one" if told is None else "three"] += 1
                    self.assert_exact(three_after(book, three, find), told)
        self.assertTrue(min(found.values()) > 50, found)

    def test_a_torn_book_comes_ahead_of_two_in_one(self):
        book = (2, ((0, 0), (0, 1), (1, 0)))
        with self.assertRaises(Torn):
            three_after(book, (2, 1, 0), (2, 1))

    def test_refusals(self):
        wrong = {"three": NOT_THREES, "find": tuple(find for find in NOT_FINDS if find != (0, 1)) + ((0, 4),)}
        good = (("book", LOOSE), ("three", (0, 1, 2)), ("find", (0, 2)))
        self.assert_refused_in_order(three_after, good, wrong)
        self.assert_not_usable("find", three_after, RING, (0, 1, 2), (1, 0))
        self.assert_not_usable("three", three_after, PAIR, (0, 1, 0), (0, 1))
        self.assert_exact(three_after(find=(4, 1), three=(1, 2, 3), book=EACH), (3, 1, 2))


class TestMapAfter(Case):
    def check(self, book, three, chart):
        """Each find either leads to a map with the same lots, or is refused; how many did."""
        many = 0
        for find in plain_finds(book):
            both = find[0] in three and find[1] in three
            if fan_between(book, find) == 1 or both or count_with(book, (find,)) == 0:
                self.assert_not_usable("find", map_after, book, three, chart, find)
                continue
            many += 1
            after = map_after(book, three, chart, find)
            made, rows = glued(book, find)
            gone = tuple(at for leaf in three for at, row in enumerate(rows) if leaf in row)
            self.assert_exact((after.__class__, len(after), after[0]), (tuple, 2, chart[0]))
            self.assertEqual([row.__class__ for row in after[1]], [tuple] * len(chart[0]))
            self.assertTrue(is_plain_map(cut_book(made, gone), *after), (book, three, chart, find))
        return many

    def test_examples(self):
        after = map_after(EACH, (0, 1, 2), CHART, (3, 5))
        self.assert_exact(lets_map((3, ((0, 1), (1, 2), (2, 0), (1, 2), (2, 1))), (0, 1, 2), after), 4)

    def test_maps_that_are_found(self):
        many = 0
        for book in (EACH, LOOSE, ONE) + tuple(small_books(3, 5)) + tuple(random_books(88, 20, 4, 7)):
            for three in list(threes(book))[::3]:
                chart = map_of(book, three)
                if chart is not None:
                    many += self.check(book, three, chart)
        self.assertTrue(many > 100, many)

    def test_all_maps_of_small_books(self):
        rng = random.Random(89)
        many = 0
        books = [EACH] + [book for book in small_books(2, 5) if len(book[1]) > 3]
        for book in rng.sample(books, 8) + [EACH]:
            sure = [three for three in threes(book) if is_sure(book, three)]
            for three in rng.sample(sure, min(len(sure), 2)):
                cut = cut_book(book, three)
                for parting in partings(tuple(range(cut[0]))):
                    lots = tuple(sorted(parting))
                    for rounds in product(*[all_rounds_of(cut, lot) for lot in lots]):
                        if is_plain_map(cut, lots, rounds):
                            many += self.check(book, three, (lots, rounds))
        self.assertTrue(many > 30, many)

    def test_more_words(self):
        rng = random.Random(90)
        many = 0
        while many < 150:
            size = rng.randrange(3, 9)
            book = random_book(rng, size, rng.randrange(size, min(20, 2 * size + 3) + 1))
            sure = [(0, e, f) for e, f in sure_pairs(book, 0)]
            for three in rng.sample(sure, min(len(sure), 2)):
                chart = map_of(book, three)
                many += self.check(book, three, chart)
                self.check(book, three, mirrored(chart))

    def test_find_behind_find(self):
        rng = random.Random(91)
        deep = 0
        for book in random_books(92, 40, 5, 12):
            sure = [(0, e, f) for e, f in sure_pairs(book, 0)]
            if sure:
                three = rng.choice(sure)
                chart = map_of(book, three)
                steps = 0
                finds = plain_finds(book)
                while finds:
                    find = finds.pop(rng.randrange(len(finds)))
                    if fan_between(book, find) > 1 and count_with(book, (find,)) > 0:
                        after = three_after(book, three, find)
                        if after is not None:
                            chart = map_after(book, three, chart, find)
                            book, three = glued(book, find)[0], after
                            lets_map(book, three, chart)
                            finds = plain_finds(book)
                            steps += 1
                deep += steps > 1
        self.assertTrue(deep > 5, deep)

    def test_refusals(self):
        charts = ODD_VALUES + (
            list(CHART), CHART[:1], (CHART[0], CHART[1][:5]), (CHART[0], ((0, 5, 3, 8),) + CHART[1][1:]), CHART + ((),),
            (CHART[0], ((0, 3, 5, True),) + CHART[1][1:]),
        )
        finds = tuple(find for find in NOT_FINDS if find not in ((0, 1), (0, 2)))
        wrong = {"three": NOT_THREES + ((0, 3),), "chart": charts, "find": finds + ((0, 2), (1, 3), (0, 1))}
        good = (("book", EACH), ("three", (0, 1, 2)), ("chart", CHART), ("find", (3, 5)))
        self.assert_refused_in_order(map_after, good, wrong)
        # A map of three, but not of these three.
        self.assert_not_usable("chart", map_after, EACH, (0, 2, 1), CHART, (3, 5))
        chart = map_of(RING, (0, 1, 2))
        self.assert_not_usable("find", map_after, RING, (0, 1, 2), chart, (0, 1))
        self.assert_exact(map_after(find=(3, 5), chart=CHART, three=(0, 1, 2), book=EACH)[0], CHART[0])
