from tests.books import EACH, LOOSE, ODD_VALUES, ONE, PAIR, RING, SINGLE, random_books
from tests.cases import NOT_NUMBERS, Case
from unsewn.layers import layers_of, room_of
from unsewn.sureclasses import Sure
from unsewn.surely import sure_before, sure_pairs

METHODS = ("__init__", "pairs", "layers", "room", "is_before")


class TestSure(Case):
    def test_examples(self):
        told = Sure(EACH, 0)
        expected = (((1, 2),), ((1, 3, 4, 5), (2,)), (2, 5), True)
        self.assert_exact((told.pairs(), told.layers(), told.room(2), told.is_before(1, 2)), expected)

    def test_it_tells_what_the_functions_tell(self):
        for book in (RING, EACH, LOOSE, ONE, PAIR, SINGLE) + tuple(random_books(69, 8, 4, 8)):
            many = len(book[1])
            for cover in range(many):
                told = Sure(book, cover)
                self.assert_exact((told.pairs(), told.layers()), (sure_pairs(book, cover), layers_of(book, cover)))
                for leaf in range(many):
                    self.assert_exact(told.room(leaf), room_of(book, cover, leaf))
                    for other in range(many):
                        self.assert_exact(told.is_before(leaf, other), sure_before(book, cover, leaf, other))

    def test_by_name(self):
        told = Sure(cover=0, book=EACH)
        self.assert_exact((told.room(leaf=1), told.is_before(other=1, one=2)), ((1, 4), False))

    def test_each_method_stands_in_the_class(self):
        for name in METHODS:
            self.assertIn(name, vars(Sure))

    def test_refusals(self):
        for book in ODD_VALUES + ((2, ((0, 1),)), (2, ((0, 0), (1, 1))), (1, ()), list(RING), (3, list(RING[1])), (10 ** 59, ())):
            for cover in (0, None):
                self.assert_not_usable("book", Sure, book, cover)
        told = Sure(EACH, 0)
        for wrong in NOT_NUMBERS + (6,):
            self.assert_not_usable("cover", Sure, EACH, wrong)
            self.assert_not_usable("leaf", told.room, wrong)
            self.assert_not_usable("one", told.is_before, wrong, wrong)
            self.assert_not_usable("other", told.is_before, 1, wrong)
