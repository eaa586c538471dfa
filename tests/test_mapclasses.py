from tests.books import EACH, LOOSE, ONE, PAIR, RING, random_books, small_books, threes
from tests.cases import NOT_THREES, Case
from unsewn.lands import lands_of
from unsewn.mapclasses import Map
from unsewn.mapkinds import is_map
from unsewn.maptexts import map_lines
from unsewn.surely import is_sure

METHODS = ("lots", "rounds", "lands", "lines")


class TestMap(Case):
    def test_it_keeps_one_map(self):
        seen = {True: 0, False: 0}
        for book in (RING, EACH, LOOSE, ONE) + tuple(small_books(2, 4)) + tuple(random_books(79, 8, 4, 7)):
            for three in list(threes(book))[::5]:
                told = is_sure(book, three)
                seen[told] += 1
                if told:
                    kept = Map(book, three)
                    chart = (kept.lots(), kept.rounds())
                    self.assert_exact(is_map(book, three, chart), True)
                    self.assert_exact(kept.lands(), lands_of(book, three, chart))
                    self.assert_exact(kept.lines(), map_lines(chart))
                    self.assert_exact((kept.lots(), kept.rounds()), chart)
                    self.assert_exact(chart[0].__class__, tuple)
                else:
                    self.assert_not_usable("three", Map, book, three)
        self.assertTrue(min(seen.values()) > 20, seen)

    def test_refusals(self):
        for wrong in NOT_THREES + ((0, 3, 5),):
            self.assert_not_usable("three", Map, EACH, wrong)
        self.assert_not_usable("three", Map, PAIR, (0, 1, 0))
        self.assert_exact(len(Map(three=(0, 1, 2), book=EACH).lines()), len(Map(EACH, (0, 1, 2)).lots()))

    def test_each_method_stands_in_the_class(self):
        for name in METHODS:
            self.assertIn(name, vars(Map))
