from tests.books import (
    EACH, LOOSE, ONE, PAIR, RING, SAMPLES, SINGLE, all_readings, fraction, random_books, small_books,
)
from tests.cases import NOT_NUMBERS, Case
from unsewn.bestrows import best_row
from unsewn.layers import layers_of, near_pairs, room_of
from unsewn.places import mean_place
from unsewn.surely import open_pairs, sure_pairs
from unsewn.tips import firsts_of, lasts_of

FOUR = (4, ((0, 1), (1, 2), (2, 3), (3, 0)))
LOOPS = (4, ((0, 1), (1, 2), (2, 3), (3, 0), (1, 1), (2, 2)))
BOOKS = SAMPLES + (FOUR, LOOPS) + tuple(small_books(3, 5)) + tuple(random_books(66, 25, 5, 7))


def plain_sure_pairs(book, cover):
    readings = all_readings(book, cover)
    others = [leaf for leaf in range(len(book[1])) if leaf != cover]
    return [
        (e, f) for e in others for f in others
        if e != f and all(reading.index(e) < reading.index(f) for reading in readings)]


def longest_row(pairs, leaf):
    """How many sure pairs the longest row has that ends in the leaf."""
    return max([longest_row(pairs, e) + 1 for e, f in pairs if f == leaf], default=0)


class TestLayers(Case):
    def test_examples(self):
        self.assert_exact((layers_of(EACH, 0), layers_of(RING, 1)), (((1, 3, 4, 5), (2,)), ((2,), (0,))))
        self.assert_exact(near_pairs(FOUR, 0), ((1, 2), (2, 3)))
        self.assert_exact((room_of(EACH, 0, 1), room_of(EACH, 0, 2), room_of(EACH, 0, 0)), ((1, 4), (2, 5), (0, 0)))

    def test_edges(self):
        self.assert_exact((layers_of(SINGLE, 0), near_pairs(SINGLE, 0), room_of(SINGLE, 0, 0)), ((), (), (0, 0)))
        self.assert_exact((layers_of(PAIR, 1), near_pairs(PAIR, 1), room_of(PAIR, 1, 0)), (((0,),), (), (1, 1)))
        # No sure pair: one layer of all, and room for all.
        self.assert_exact((layers_of(LOOSE, 0), near_pairs(LOOSE, 0)), (((1, 2, 3, 4),), ()))
        self.assert_exact([room_of(LOOSE, 0, leaf) for leaf in range(5)], [(0, 0)] + [(1, 4)] * 4)
        self.assert_exact(layers_of(ONE, 2), ((0, 1),))

    def test_against_all_readings(self):
        deep = 0
        for book in BOOKS:
            many = len(book[1])
            for cover in range(many):
                pairs = plain_sure_pairs(book, cover)
                rows = {leaf: longest_row(pairs, leaf) for leaf in range(many) if leaf != cover}
                told = [tuple(leaf for leaf in rows if rows[leaf] == at) for at in range(max(rows.values(), default=-1) + 1)]
                deep += len(told) > 2
                self.assert_exact(layers_of(book, cover), tuple(told))
                near = [(e, f) for e, f in pairs if not any((e, g) in pairs and (g, f) in pairs for g in range(many))]
                self.assert_exact(near_pairs(book, cover), tuple(near))
                for leaf in range(many):
                    ends, begins = sum(f == leaf for _, f in pairs), sum(e == leaf for e, _ in pairs)
                    told = (0, 0) if leaf == cover else (1 + ends, many - 1 - begins)
                    self.assert_exact(room_of(book, cover, leaf), told)
        self.assertTrue(deep > 10, deep)

    def test_rooms_hold_all_places(self):
        for book in BOOKS:
            for cover in range(min(len(book[1]), 2)):
                rooms = [room_of(book, cover, leaf) for leaf in range(len(book[1]))]
                for reading in all_readings(book, cover):
                    for leaf, (low, high) in enumerate(rooms):
                        self.assertTrue(low <= reading.index(leaf) <= high)

    def test_consequences(self):
        for book in random_books(67, 8, 10, 40):
            pairs = sure_pairs(book, 0)
            layers = layers_of(book, 0)
            self.assertEqual(sorted(leaf for layer in layers for leaf in layer), list(range(1, len(book[1]))))
            opened = open_pairs(book, 0)
            self.assertTrue(all((e, f) in opened for layer in layers for e in layer for f in layer if e < f))
            reached = set(near_pairs(book, 0))
            for _ in range(6):
                reached |= {(e, g) for e, f in reached for h, g in reached if f == h}
            self.assertEqual(sorted(reached), list(pairs))
            row = best_row(book, 0)
            self.assertTrue(all(row.index(e) < row.index(f) for e, f in pairs))
            low, high = room_of(book, 0, 1)
            self.assertTrue(low <= fraction(mean_place(book, 0, 1)) <= high)

    def test_refusals(self):
        wrong = NOT_NUMBERS + (6,)
        good = (("book", EACH), ("cover", 0), ("leaf", 1))
        self.assert_refused_in_order(room_of, good, {"cover": wrong, "leaf": wrong})
        for call in (layers_of, near_pairs, firsts_of, lasts_of):
            self.assert_refused_in_order(call, good[:2], {"cover": wrong})
        self.assert_exact(room_of(leaf=2, cover=0, book=EACH), (2, 5))
        self.assert_exact((layers_of(cover=1, book=RING), near_pairs(cover=1, book=RING)), (((2,), (0,)), ((2, 0),)))


class TestTips(Case):
    def test_examples(self):
        self.assert_exact((firsts_of(LOOSE, 0), lasts_of(LOOSE, 0)), ((1, 2, 3), (2, 3)))

    def test_edges(self):
        self.assert_exact((firsts_of(SINGLE, 0), lasts_of(SINGLE, 0)), ((), ()))
        self.assert_exact((firsts_of(PAIR, 0), lasts_of(PAIR, 0), firsts_of(RING, 1), lasts_of(RING, 1)), ((1,), (1,), (2,), (0,)))
        # A loop at the last word cannot come first where the word has no other leaf.
        torn = (2, ((0, 0), (0, 1), (1, 0)))
        self.assert_exact((firsts_of(torn, 2), lasts_of(torn, 2), firsts_of(torn, 1), lasts_of(torn, 1)), ((0,), (1,), (2,), (0,)))

    def test_against_all_readings(self):
        for book in BOOKS:
            for cover in range(len(book[1])):
                readings = [reading for reading in all_readings(book, cover) if len(reading) > 1]
                self.assert_exact(firsts_of(book, cover), tuple(sorted({reading[1] for reading in readings})))
                self.assert_exact(lasts_of(book, cover), tuple(sorted({reading[-1] for reading in readings})))

    def test_no_sure_pairs_there(self):
        for book in random_books(68, 8, 10, 40):
            pairs = sure_pairs(book, 0)
            self.assertEqual(set(firsts_of(book, 0)) & {f for _, f in pairs}, set())
            self.assertEqual(set(lasts_of(book, 0)) & {e for e, _ in pairs}, set())

    def test_by_name(self):
        self.assert_exact((firsts_of(cover=0, book=LOOSE), lasts_of(cover=0, book=LOOSE)), ((1, 2, 3), (2, 3)))
