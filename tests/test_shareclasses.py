from tests.books import EACH, LOOSE, ODD_VALUES, PAIR, RING, SINGLE, random_books
from tests.cases import NOT_NUMBERS, Case
from unsewn.bestrows import best_row
from unsewn.looks import best_look
from unsewn.nexts import next_share
from unsewn.places import mean_place
from unsewn.shareclasses import Shares
from unsewn.shares import before_share

METHODS = ("before", "mean", "follows", "ranked", "look")


class TestShares(Case):
    def test_it_tells_what_the_functions_tell(self):
        for book in (RING, EACH, LOOSE, PAIR, SINGLE) + tuple(random_books(53, 10, 4, 8)):
            many = len(book[1])
            for cover in range(many):
                told = Shares(book, cover)
                self.assert_exact((told.ranked(), told.look()), (best_row(book, cover), best_look(book)))
                for leaf in range(many):
                    self.assert_exact(told.mean(leaf), mean_place(book, cover, leaf))
                    for other in range(many):
                        if len({leaf, other, cover}) == 3:
                            self.assert_exact(told.before(leaf, other), before_share(book, cover, leaf, other))
                        if leaf != other and book[1][leaf][1] == book[1][other][0]:
                            self.assert_exact(told.follows((leaf, other)), next_share(book, (leaf, other)))

    def test_by_name(self):
        told = Shares(cover=0, book=LOOSE)
        self.assert_exact(told.before(other=2, one=1), (3, 4))
        self.assert_exact(told.mean(leaf=1), (2, 1))
        self.assert_exact(told.follows(find=(0, 2)), (1, 4))

    def test_each_method_stands_in_the_class(self):
        for name in METHODS:
            self.assertIn(name, vars(Shares))

    def test_the_book_is_checked_first(self):
        wrong = ODD_VALUES + ((2, ((0, 1),)), (2, ((0, 0), (1, 1))), (1, ()), list(RING), (3, list(RING[1])), (10 ** 59, ()))
        for book in wrong:
            for cover in (0, None):
                self.assert_not_usable("book", Shares, book, cover)
        for cover in NOT_NUMBERS + (3,):
            self.assert_not_usable("cover", Shares, RING, cover)

    def test_the_methods_refuse(self):
        told = Shares(LOOSE, 0)
        for wrong in NOT_NUMBERS + (5,):
            self.assert_not_usable("one", told.before, wrong, 2)
            self.assert_not_usable("one", told.before, wrong, wrong)
            self.assert_not_usable("other", told.before, 1, wrong)
            self.assert_not_usable("leaf", told.mean, wrong)
            self.assert_not_usable("find", told.follows, wrong)
        self.assert_not_usable("one", told.before, 0, 1)
        self.assert_not_usable("other", told.before, 1, 0)
        self.assert_not_usable("other", told.before, 1, 1)
        self.assert_not_usable("find", told.follows, (0, 4))
