from tests.books import EACH, ONE, PAIR, RING, is_book_plainly, random_books, threes
from tests.cases import NOT_THREES, Case
from unsewn.cutting import cut_book
from unsewn.kinds import is_book


class TestCutting(Case):
    def test_examples(self):
        self.assert_exact(cut_book(RING, (0, 2, 1)), (6, ((0, 3), (1, 5), (2, 4), (3, 1), (4, 0), (5, 2))))

    def test_edges(self):
        told = (4, ((0, 2), (0, 3), (0, 1), (1, 0), (2, 0), (3, 0)))
        self.assert_exact(cut_book(ONE, (2, 0, 1)), told)

    def test_by_definition(self):
        for book in (RING, EACH, ONE) + tuple(random_books(63, 15, 6, 9)):
            size, leaves = book
            for three in list(threes(book))[::7]:
                told = [
                    (leaf[0], size + three.index(at)) if at in three else leaf for at, leaf in enumerate(leaves)]
                told += [(size + at, leaves[three[at]][1]) for at in range(3)]
                self.assert_exact(cut_book(book, three), (size + 3, tuple(told)))
                self.assertTrue(is_book(cut_book(book, three)) and is_book_plainly(cut_book(book, three)))

    def test_refusals(self):
        self.assert_refused_in_order(cut_book, (("book", EACH), ("three", (0, 1, 2))), {"three": NOT_THREES})
        self.assert_not_usable("three", cut_book, PAIR, (0, 1, 2))
        self.assert_exact(cut_book(three=(0, 2, 1), book=RING), cut_book(RING, (0, 2, 1)))
