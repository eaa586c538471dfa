import random
from itertools import permutations, product

from tests.books import EACH, LOOSE, ODD_VALUES, ONE, PAIR, RING, random_book, random_books, small_books
from tests.cases import NOT_THREES, Case
from tests.test_maps import LOTS, MAP, RING_MAP, all_rounds_of, is_plain_map, plain_lands
from unsewn.cutting import cut_book
from unsewn.lands import lands_of, mirrored
from unsewn.mapchecker import lets_map
from unsewn.mapkinds import is_map
from unsewn.maps import map_of
from unsewn.surely import sure_pairs

NOT_CHARTS = ODD_VALUES + (
    ((), ()), (((0,),), ()), (((0,),), ((1,), (2,))), (((),), ((1,),)), (((0,),), ((),)), (((0,), ()), ((1,), (2,))),
    (((0,),), ((1,),), ()), [((0,),), ((1,),)], ([(0,)], ((1,),)), (((0,),), [(1,)]), (([0],), ((1,),)),
    (((0,),), ([1],)), (((True,),), ((1,),)), (((0,),), ((-1,),)), (((0,),), (("1",),)), (((0,),), ((None,),)), ((0,), (1,)),
    (((0,),),), (((0,),), None),
)


def told_plainly(rounds, sort):
    """The lands of one sort, from the least leaf on, ascending; by the leaf next ahead if sort is True."""
    lands = []
    for ring in plain_lands(rounds, sort):
        at = ring.index(min(ring))
        lands.append(tuple(ring[at:] + ring[:at]))
    return tuple(sorted(lands))


class TestLands(Case):
    def test_examples(self):
        told = (((0, 6, 3), (1, 7, 4), (2, 8, 5)), ((0, 6, 1, 7, 2, 8), (3, 5, 4)))
        self.assert_exact(lands_of(EACH, (0, 1, 2), MAP), told)
        self.assert_exact(mirrored(MAP)[1][0], (0, 3, 5, 8))

    def test_a_ring_of_both_sorts_stands_in_both(self):
        ring = (0, 3, 1, 4, 2, 5)
        rounds = ((0, 5), (1, 3), (2, 4), (3, 0), (4, 1), (5, 2))
        self.assert_exact(lands_of(RING, (0, 1, 2), (LOTS, rounds)), ((ring,), (ring,)))
        # With one gate in each lot both sorts are alike.
        self.assert_exact(lands_of(RING, (0, 1, 2), RING_MAP), ((ring,), (ring,)))

    def test_maps_of_many_books(self):
        rng = random.Random(77)
        seen = 0
        books = [ONE, LOOSE, RING, EACH] + list(small_books(2, 4)) + list(random_books(78, 20, 5, 9))
        for book in books + [random_book(rng, 8, 20) for _ in range(4)]:
            sure = [(0, e, f) for e, f in sure_pairs(book, 0)]
            for three in rng.sample(sure, min(len(sure), 3)):
                chart = map_of(book, three)
                told = lands_of(book, three, chart)
                self.assert_exact(told, (told_plainly(chart[1], False), told_plainly(chart[1], True)))
                self.assertEqual(sum(len(lands) for lands in told), lets_map(book, three, chart))
                leaves = cut_book(book, three)[1]
                home = {word: at for at, lot in enumerate(chart[0]) for word in lot}
                between = [leaf for leaf, (x, y) in enumerate(leaves) if home[x] != home[y]]
                for lands in told:
                    self.assertEqual(sorted(leaf for land in lands for leaf in land), between)
                turned = mirrored(chart)
                self.assert_exact(is_map(book, three, turned), True)
                self.assert_exact(lands_of(book, three, turned), told[::-1])
                self.assert_exact(mirrored(turned), chart)
                seen += 1
        self.assertTrue(seen > 30, seen)

    def test_all_rounds_of_a_map(self):
        three = (0, 1, 2)
        cut = cut_book(EACH, three)
        seen = 0
        for rounds in product(*[all_rounds_of(cut, lot) for lot in LOTS]):
            if is_plain_map(cut, LOTS, rounds):
                seen += 1
                told = (told_plainly(rounds, False), told_plainly(rounds, True))
                self.assert_exact(lands_of(EACH, three, (LOTS, rounds)), told)
            else:
                self.assert_not_usable("chart", lands_of, EACH, three, (LOTS, rounds))
        self.assertTrue(seen > 1)

    def test_lands_refuse(self):
        broken = (LOTS, ((0, 3, 5, 8),) + MAP[1][1:])
        wrong = {"three": NOT_THREES, "chart": NOT_CHARTS + (broken, RING_MAP, MAP[:1], (LOTS, MAP[1][:5]))}
        good = (("book", EACH), ("three", (0, 1, 2)), ("chart", MAP))
        self.assert_refused_in_order(lands_of, good, wrong)
        self.assert_not_usable("chart", lands_of, EACH, (0, 2, 1), MAP)
        self.assert_not_usable("three", lands_of, PAIR, (0, 1, 2), MAP)
        self.assert_exact(lands_of(chart=MAP, three=(0, 1, 2), book=EACH), lands_of(EACH, (0, 1, 2), MAP))


class TestMirror(Case):
    def test_any_chart_will_do(self):
        self.assert_exact(mirrored((((0,),), ((5,),))), (((0,),), ((5,),)))
        self.assert_exact(mirrored((((3, 1), (2,)), ((1, 2), (1, 2, 3)))), (((3, 1), (2,)), ((1, 2), (1, 3, 2))))
        self.assert_exact(mirrored((((0, 0),), ((4, 3, 2, 1, 0),))), (((0, 0),), ((4, 0, 1, 2, 3),)))
        self.assert_exact(mirrored(MAP), (LOTS, ((0, 3, 5, 8), (1, 4, 3, 6), (2, 5, 4, 7), (6, 0), (7, 1), (8, 2))))

    def test_twice_is_nothing(self):
        for leaves in permutations(range(4)):
            chart = (((0,), (9, 9)), (leaves, leaves[:2]))
            turned = mirrored(chart)
            self.assert_exact(turned, (chart[0], ((leaves[0], leaves[3], leaves[2], leaves[1]), leaves[:2])))
            self.assert_exact(mirrored(turned), chart)

    def test_refusals(self):
        for wrong in NOT_CHARTS:
            self.assert_not_usable("chart", mirrored, wrong)
        for book in (LOOSE, EACH):
            self.assert_not_usable("chart", mirrored, book)
        self.assert_exact(mirrored(chart=MAP), mirrored(MAP))
