import random
from itertools import permutations, product

from tests.books import EACH, LOOSE, ODD_VALUES, ONE, RING, all_readings, comes, random_book, random_books, small_books, threes
from tests.cases import NOT_THREES, Case
from unsewn.cutting import cut_book
from unsewn.errors import InvalidPaper
from unsewn.mapchecker import lets_map
from unsewn.mapkinds import is_map
from unsewn.maps import map_of
from unsewn.surely import is_sure, sure_pairs

LOTS = ((0,), (1,), (2,), (3,), (4,), (5,))
MAP = (LOTS, ((0, 8, 5, 3), (1, 6, 3, 4), (2, 7, 4, 5), (6, 0), (7, 1), (8, 2)))
RING_MAP = (LOTS, ((0, 5), (1, 3), (2, 4), (3, 0), (4, 1), (5, 2)))


def plain_lands(rounds, sort):
    """The lands of one sort, each as the frozen set of its steps (leaf that enters, leaf that leaves)."""
    steps = {}
    for leaves in rounds:
        for at, leaf in enumerate(leaves):
            if at % 2 == 1:
                steps[leaf] = leaves[at - 1] if sort else (leaves + leaves)[at + 1]
    lands = []
    left = set(steps)
    while left:
        ring = [left.pop()]
        while steps[ring[-1]] != ring[0]:
            ring.append(steps[ring[-1]])
            left.remove(ring[-1])
        lands.append(ring)
    return lands


def is_plain_map(cut, lots, rounds):
    """Whether lots, which part the words of the book cut, and rounds are a map, by the definition."""
    size, leaves = cut
    home = {word: at for at, lot in enumerate(lots) for word in lot}
    told = [home[size - 3], home[size - 2], home[size - 1]]
    if len(set(told)) < 3:
        return False
    for at, leaving_or_not in enumerate(rounds):
        out = [i for i, (x, y) in enumerate(leaves) if home[x] == at != home[y]]
        back = [i for i, (x, y) in enumerate(leaves) if home[y] == at != home[x]]
        if len(out) not in ((1,) if at in told else (1, 2)):
            return False
        if sorted(leaving_or_not[::2]) != out or sorted(leaving_or_not[1::2]) != back:
            return False
    between = sum(home[x] != home[y] for x, y in leaves)
    lands = plain_lands(rounds, False) + plain_lands(rounds, True)
    if len(lots) - between + len(lands) != 2:
        return False
    for land in lands:
        homes = [home[leaves[leaf][1]] for leaf in land]
        if set(told) <= set(homes) and comes(homes, told):
            return True
    return False


def partings(words):
    """All ways to part the words into lots."""
    if not words:
        yield []
        return
    first, rest = words[0], words[1:]
    for parting in partings(rest):
        yield [(first,)] + parting
        for at in range(len(parting)):
            yield parting[:at] + [(first,) + parting[at]] + parting[at + 1:]


def all_rounds_of(cut, lot):
    out = [i for i, (x, y) in enumerate(cut[1]) if x in lot and y not in lot]
    back = [i for i, (x, y) in enumerate(cut[1]) if y in lot and x not in lot]
    if len(out) > 2:
        return [()]
    return [
        tuple(leaf for pair in zip(one, other) for leaf in pair)
        for one in permutations(out) for other in permutations(back)]


class TestMaps(Case):
    def books(self):
        return (RING, EACH, LOOSE, ONE) + tuple(small_books(2, 5)) + tuple(random_books(72, 12, 4, 7))

    def test_a_map_exactly_if_sure(self):
        found = set()
        for book in self.books():
            for three in threes(book):
                told = all(comes(reading, three) for reading in all_readings(book, three[0]))
                chart = map_of(book, three)
                self.assertEqual(chart is not None, told, (book, three))
                found.add(told)
                if told:
                    self.assertTrue(is_plain_map(cut_book(book, three), *chart))
                    self.assert_exact(is_map(book, three, chart), True)
        self.assertEqual(found, {True, False})

    def test_more_words(self):
        rng = random.Random(73)
        found = {True: 0, False: 0}
        while min(found.values()) < 40:
            size = rng.randrange(3, 9)
            book = random_book(rng, size, rng.randrange(max(size, 3), min(20, 2 * size + 3) + 1))
            sure = [(0, e, f) for e, f in sure_pairs(book, 0)]
            for three in rng.sample(sure, min(len(sure), 2)) + [tuple(rng.sample(range(len(book[1])), 3))]:
                told = is_sure(book, three)
                chart = map_of(book, three)
                self.assertEqual(chart is not None, told, (book, three))
                found[told] += 1
                if told:
                    self.assertTrue(is_plain_map(cut_book(book, three), *chart))
                    self.assertTrue(is_map(book, three, chart))

    def test_all_maps_of_small_books(self):
        rng = random.Random(74)
        books = [ONE, (1, ((0, 0),) * 4), LOOSE] + [book for book in small_books(2, 4) if len(book[1]) > 2]
        for book in books + [RING, (3, ((0, 1), (1, 2), (2, 0), (1, 1)))]:
            for three in rng.sample(list(threes(book)), 2):
                cut = cut_book(book, three)
                maps = 0
                for parting in partings(tuple(range(cut[0]))):
                    lots = tuple(sorted(parting))
                    for rounds in product(*[all_rounds_of(cut, lot) for lot in lots]):
                        told = is_plain_map(cut, lots, rounds)
                        self.assert_exact(is_map(book, three, (lots, rounds)), told)
                        maps += told
                self.assertEqual(maps > 0, is_sure(book, three))

    def test_kinds_of_results(self):
        lots, rounds = chart = map_of(EACH, (0, 1, 2))
        self.assertEqual([part.__class__ for part in (chart, lots, rounds) + lots + rounds], [tuple] * (3 + 2 * len(lots)))

    def test_refusals(self):
        wrong = {"three": NOT_THREES}
        self.assert_refused_in_order(map_of, (("book", EACH), ("three", (0, 1, 2))), wrong)
        for call in (is_map, lets_map):
            self.assert_refused_in_order(call, (("book", EACH), ("three", (0, 1, 2)), ("thing", MAP)), wrong)
            self.assert_not_usable("three", call, EACH, None, None)
        self.assert_exact(map_of(three=(0, 2, 1), book=EACH), None)
        self.assert_exact(is_map(thing=MAP, three=(0, 1, 2), book=EACH), True)
        self.assert_exact(lets_map(thing=MAP, three=(0, 1, 2), book=EACH), 5)


class TestChecker(Case):
    def assert_invalid(self, word, at, book, three, thing):
        with self.assertRaises(InvalidPaper) as caught:
            lets_map(book, three, thing)
        self.assert_exact((caught.exception.word, caught.exception.at), (word, at), thing)
        self.assert_exact(is_map(book, three, thing), False)

    def changed(self, lots=None, rounds=None):
        """The map of EACH with some lots or rounds, by index, put by others."""
        parts = []
        for part, new in zip(MAP, (lots or {}, rounds or {})):
            parts.append(tuple(new.get(at, old) for at, old in enumerate(part)))
        return tuple(parts)

    def test_examples(self):
        self.assert_exact(lets_map(EACH, (0, 1, 2), MAP), 5)
        self.assert_exact(lets_map(RING, (0, 1, 2), RING_MAP), 2)
        self.assert_invalid("ball", -1, EACH, (0, 1, 2), (LOTS, ((0, 3, 5, 8),) + MAP[1][1:]))

    def test_other_rounds_of_the_same_map(self):
        self.assert_exact(lets_map(EACH, (0, 1, 2), self.changed(rounds={0: (5, 3, 0, 8)})), 5)
        mirror = tuple(row[:1] + row[:0:-1] for row in MAP[1])
        self.assert_exact(lets_map(EACH, (0, 1, 2), (LOTS, mirror)), 5)
        self.assert_exact(is_map(EACH, (0, 1, 2), (LOTS, mirror)), True)

    def test_kind(self):
        for thing in ODD_VALUES + (
            list(MAP), MAP + ((),), MAP[:1], (list(LOTS), MAP[1]), (LOTS, list(MAP[1])), (LOTS[0], MAP[1]),
            self.changed(lots={0: [0]}), self.changed(rounds={5: [8, 2]}), self.changed(lots={0: (False,)}),
            self.changed(rounds={5: (8, True)}), self.changed(rounds={5: (8, -2)}), self.changed(rounds={5: (8, "2")}),
            self.changed(rounds={5: 8}), self.changed(lots={0: (None,)}), (None, None), (LOTS, None), ("ab", "cd"),
        ):
            if thing != ():
                self.assert_invalid("kind", -1, EACH, (0, 1, 2), thing)
        self.assert_invalid("kind", -1, EACH, (0, 1, 2), ())

    def test_lots(self):
        for lots in (
            (), LOTS[:5], LOTS[1:], LOTS + ((6,),), LOTS[::-1], LOTS[:5] + ((4, 5),), LOTS[:5] + ((5, 5),), LOTS[:5] + ((6,),),
            ((1,), (0,)) + LOTS[2:], ((0,),) + LOTS, ((), ()) + LOTS, ((1, 0),) + LOTS[2:], LOTS[:4] + ((5, 4),), LOTS[:4] + ((5,), (4,)),
            LOTS[:5] + ((10 ** 59,),), ((0, 1), (1, 2), (3,), (4,), (5,)),
        ):
            for rounds in (MAP[1], tuple(() for _ in lots)):
                self.assert_invalid("lots", -1, EACH, (0, 1, 2), (lots, rounds))
        for rounds in ((), MAP[1][:5], MAP[1] + ((),)):
            self.assert_invalid("lots", -1, EACH, (0, 1, 2), (LOTS, rounds))

    def test_ends_and_gates(self):
        three = (0, 1, 2)
        self.assert_invalid("ends", 3, EACH, three, (LOTS[:3] + ((3, 4), (5,)), MAP[1][:3] + ((6, 0, 7, 1), (8, 2))))
        self.assert_invalid("ends", 2, EACH, three, (LOTS[:2] + ((2, 3, 4, 5),), MAP[1][:2] + ((),)))
        # With one of A, B, C, but two gates.
        self.assert_invalid("gates", 0, EACH, three, (((0, 3), (1,), (2,), (4,), (5,)), ((),) * 5))
        # With none of them, but no gate, or three.
        self.assert_invalid("gates", 0, EACH, three, (((),) + LOTS, ((),) * 7))
        self.assert_invalid("gates", 0, ONE, three, (((0,), (1,), (2,), (3,)), ((),) * 4))
        self.assert_invalid("gates", 0, ONE, three, (((0,), (1, 2), (3,)), ((),) * 3))
        self.assert_invalid("ends", 0, ONE, three, (((0, 1, 2, 3),), ((),)))

    def test_rounds(self):
        three = (0, 1, 2)
        for leaves in ((), (8, 0, 3, 5), (0, 8, 5), (0, 8, 5, 3, 0), (0, 8, 5, 8), (0, 8, 0, 3), (0, 8, 5, 4), (0, 5, 8, 3),
                       (0, 8), (0, 8, 5, 3, 0, 8), (0, 8, 5, 10 ** 59)):
            self.assert_invalid("round", 0, EACH, three, self.changed(rounds={0: leaves}))
        for leaves in ((), (2, 8), (8,), (8, 2, 8, 2), (8, 1)):
            self.assert_invalid("round", 5, EACH, three, self.changed(rounds={5: leaves}))

    def test_lot_by_lot(self):
        three = (0, 1, 2)
        lots = LOTS[:3] + ((3, 4), (5,))
        self.assert_invalid("round", 1, EACH, three, (lots, (MAP[1][0], (), MAP[1][2], (), ())))
        self.assert_invalid("ends", 3, EACH, three, (lots, MAP[1][:3] + ((), ())))
        apart = ((0,), (1, 3), (2,), (4, 5))
        self.assert_invalid("round", 0, EACH, three, (apart, ((),) * 4))
        self.assert_invalid("gates", 1, EACH, three, (apart, (MAP[1][0], (), (), ())))

    def test_land(self):
        # On one ring the three come in one order alone.
        rounds = ((0, 4), (1, 3), (2, 5), (3, 0), (4, 2), (5, 1))
        self.assert_invalid("land", -1, RING, (0, 2, 1), (LOTS, rounds))

    def test_against_the_definition(self):
        rng = random.Random(75)
        words = set()
        for book, three in ((EACH, (0, 1, 2)), (EACH, (0, 2, 1)), (RING, (0, 1, 2)), (RING, (0, 2, 1)), (LOOSE, (0, 1, 2))):
            cut = cut_book(book, three)
            for _ in range(300):
                parting = rng.choice([LOTS[:cut[0]], LOTS[:cut[0]]] + list(partings(tuple(range(cut[0]))))[:40])
                lots = tuple(sorted(parting))
                rounds = tuple(rng.choice(all_rounds_of(cut, lot)) for lot in lots)
                told = is_plain_map(cut, lots, rounds)
                self.assert_exact(is_map(book, three, (lots, rounds)), told)
                if told:
                    lands = plain_lands(rounds, False) + plain_lands(rounds, True)
                    self.assert_exact(lets_map(book, three, (lots, rounds)), len(lands))
                else:
                    with self.assertRaises(InvalidPaper) as caught:
                        lets_map(book, three, (lots, rounds))
                    words.add(caught.exception.word)
        self.assertTrue(words >= {"ends", "gates", "ball", "land"}, words)
