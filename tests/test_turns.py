from itertools import permutations

from tests.books import EACH, LOOSE, ODD_VALUES, ONE, PAIR, RING, SAMPLES, SINGLE, random_books
from tests.cases import Case
from unsewn.counts import reading_count
from unsewn.kinds import is_book
from unsewn.turns import backwards, dealt, renamed

NOT_ORDERS = ODD_VALUES + (
    (0, 1), (0, 1, 2, 3), (0, 1, 1), (1, 2, 3), (0, 1, True), (False, 1, 2), [0, 1, 2], (0, 1, -1), (0, 1, "2"), ((0, 1, 2),),
)
HEAPS = SAMPLES + ((1, ()), (3, ()), (3, ((0, 2),)), (3, ((0, 0), (2, 1), (2, 1))))


class TestTurns(Case):
    def test_examples(self):
        self.assert_exact(backwards(RING), (3, ((1, 0), (2, 1), (0, 2))))
        self.assert_exact(renamed(RING, (1, 0, 2)), (3, ((1, 0), (0, 2), (2, 1))))
        self.assert_exact(dealt(RING, (2, 0, 1)), (3, ((2, 0), (0, 1), (1, 2))))

    def test_edges(self):
        self.assert_exact(backwards((2, ())), (2, ()))
        self.assert_exact(renamed((2, ()), (1, 0)), (2, ()))
        self.assert_exact(dealt((2, ()), ()), (2, ()))
        self.assert_exact((backwards(ONE), renamed(SINGLE, (0,)), dealt(SINGLE, (0,))), (ONE, SINGLE, SINGLE))
        # The order that is not its own way back tells which way round it is meant.
        self.assert_exact(renamed(RING, (1, 2, 0)), (3, ((1, 2), (2, 0), (0, 1))))
        self.assert_exact(renamed((3, ((0, 0), (0, 1))), (2, 0, 1)), (3, ((2, 2), (2, 0))))
        self.assert_exact(dealt(LOOSE, (1, 2, 3, 4, 0)), (2, ((0, 0), (0, 1), (0, 1), (1, 0), (1, 0))))

    def test_by_definition(self):
        for heap in HEAPS:
            size, leaves = heap
            self.assert_exact(backwards(heap), (size, tuple((y, x) for x, y in leaves)))
            self.assert_exact(backwards(backwards(heap)), heap)
            for order in permutations(range(size)):
                made = renamed(heap, order)
                self.assert_exact(made, (size, tuple((order[x], order[y]) for x, y in leaves)))
                back = tuple(order.index(word) for word in range(size))
                self.assert_exact(renamed(made, back), heap)
            for order in list(permutations(range(len(leaves))))[:150]:
                made = dealt(heap, order)
                self.assert_exact(made[0], size)
                self.assert_exact([made[1][at] for at in range(len(leaves))], [leaves[leaf] for leaf in order])

    def test_books_stay_books(self):
        for book in SAMPLES + tuple(random_books(17, 10, 8, 20)):
            size, leaves = book
            for made in (backwards(book), renamed(book, tuple(range(size))[::-1]), dealt(book, tuple(range(len(leaves)))[::-1])):
                self.assertTrue(is_book(made))
                self.assertEqual(reading_count(made), reading_count(book))

    def test_refusals(self):
        for call in (renamed, dealt):
            self.assert_refused_in_order(call, (("heap", RING), ("order", (0, 1, 2))), {"order": NOT_ORDERS})
            self.assert_not_usable("order", call, PAIR, ())
        self.assert_not_usable("order", renamed, EACH, (0, 1, 2, 3, 4, 5))
        self.assert_not_usable("order", dealt, EACH, (0, 1, 2))
        self.assert_not_usable("order", dealt, (2, ()), (0, 1))
        self.assert_exact(renamed(order=(1, 0, 2), heap=RING), renamed(RING, (1, 0, 2)))
        self.assert_exact(dealt(order=(2, 0, 1), heap=RING), dealt(RING, (2, 0, 1)))
        self.assert_exact(backwards(heap=RING), backwards(RING))
