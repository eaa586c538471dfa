from itertools import combinations

from tests.books import EACH, LOOSE, RING, SAMPLES, is_book_plainly, random_books
from tests.cases import NOT_LOTS, Case
from unsewn.heaplots import entering, gates_of, hangs_together, leaving, pieces_of, within

HEAPS = SAMPLES + (
    (1, ()), (3, ()), (2, ((0, 1),)), (3, ((0, 0), (1, 2))), (3, ((0, 2),)), (4, ((3, 1), (1, 3), (2, 0))),
    (5, ((4, 0), (0, 4), (1, 2), (2, 3))), (4, ((0, 1), (2, 1), (2, 3))), (4, ((3, 2), (1, 2), (1, 0))),
) + tuple(random_books(15, 12, 5, 9))


def all_lots(size):
    return [lot for many in range(size + 1) for lot in combinations(range(size), many)]


def hangs_plainly(heap, lot):
    """By the definition: whichever way the lot is parted in two, there is a leaf between the parts."""
    for many in range(1, len(lot)):
        for part in combinations(lot, many):
            rest = [word for word in lot if word not in part]
            if not any((x in part and y in rest) or (y in part and x in rest) for x, y in heap[1]):
                return False
    return len(lot) > 0


class TestLots(Case):
    def test_examples(self):
        told = (gates_of(EACH, (0, 1)), within(EACH, (0, 1)), leaving(EACH, (0, 1)), entering(EACH, (0, 1)))
        self.assert_exact(told, (2, (0, 3), (1, 5), (2, 4)))
        told = (hangs_together(RING, ()), hangs_together(RING, (1,)), pieces_of((3, ((0, 2),))))
        self.assert_exact(told, (False, True, ((0, 2), (1,))))

    def test_edges(self):
        for heap in HEAPS:
            none, whole = (), tuple(range(heap[0]))
            told = (gates_of(heap, none), within(heap, none), leaving(heap, none), entering(heap, none))
            self.assert_exact(told, (0, (), (), ()))
            told = (gates_of(heap, whole), within(heap, whole), leaving(heap, whole), entering(heap, whole))
            self.assert_exact(told, (0, tuple(range(len(heap[1]))), (), ()))
            self.assert_exact(hangs_together(heap, none), False)
            for word in whole:
                self.assert_exact(hangs_together(heap, (word,)), True)
        self.assert_exact((within(LOOSE, (0,)), leaving(LOOSE, (0,)), entering(LOOSE, (0,))), ((1,), (2, 3), (0, 4)))

    def test_by_definition(self):
        for heap in HEAPS:
            size, leaves = heap
            for lot in all_lots(size):
                inside = [(leaf[0] in lot, leaf[1] in lot) for leaf in leaves]
                out = tuple(i for i, pair in enumerate(inside) if pair == (True, False))
                self.assert_exact(leaving(heap, lot), out)
                self.assert_exact(gates_of(heap, lot), len(out))
                self.assert_exact(entering(heap, lot), tuple(i for i, pair in enumerate(inside) if pair == (False, True)))
                self.assert_exact(within(heap, lot), tuple(i for i, pair in enumerate(inside) if pair == (True, True)))
                self.assert_exact(hangs_together(heap, lot), hangs_plainly(heap, lot))
            lots = [lot for lot in all_lots(size) if hangs_plainly(heap, lot)]
            greatest = [lot for lot in lots if not any(set(lot) < set(other) for other in lots)]
            self.assert_exact(pieces_of(heap), tuple(sorted(greatest)))
            self.assertEqual(sorted(word for piece in pieces_of(heap) for word in piece), list(range(size)))
            if is_book_plainly(heap):
                self.assertEqual(pieces_of(heap), (tuple(range(size)),))

    def test_consequences(self):
        for heap in HEAPS[-8:]:
            lots = all_lots(heap[0])
            for one, other in combinations(lots, 2):
                both = tuple(sorted(set(one) & set(other)))
                either = tuple(sorted(set(one) | set(other)))
                more = gates_of(heap, one) + gates_of(heap, other)
                self.assertTrue(more >= gates_of(heap, both) + gates_of(heap, either))
            for lot in lots:
                self.assertEqual(len(entering(heap, lot)), len(leaving(heap, lot)))

    def test_refusals(self):
        for call in (gates_of, within, leaving, entering, hangs_together):
            wrong = {"lot": NOT_LOTS + ((3,), (0, 3))}
            self.assert_refused_in_order(call, (("heap", RING), ("lot", (0,))), wrong)
            self.assert_exact(call(lot=(0, 1), heap=EACH), call(EACH, (0, 1)))
