import random

from tests.books import EACH, ODD_VALUES, ONE, RING, SAMPLES, SINGLE, small_heaps
from tests.cases import Case
from unsewn.slips import heap_of, is_slip, slips_of
from unsewn.sliptexts import slip_lines

NOT_SLIPS_ALONE = ODD_VALUES + (
    "ab", ("a",), ("a", "b", "c"), ("", "b"), ("a", ""), ("a b", "c"), ("a", " "), (" a", "b"), ("a", "b "), ["a", "b"], ("a", 1),
    ("a", None), ("a", ("b",)), (("a", "b"),), ("a", True), ("", ""),
)
GOOD = (("fox", "the"), ("the", "fox"), ("the", "the"))
NOT_SLIPS = tuple(thing for thing in NOT_SLIPS_ALONE if thing != (("a", "b"),)) + tuple(
    (thing,) for thing in NOT_SLIPS_ALONE) + (
    ("a", "b"), (GOOD,), [GOOD[0]], list(GOOD), GOOD + (None,), GOOD + (("a", "b c"),), (None,) + GOOD, GOOD + ("a", "b"),
)
NOT_NAMES = ODD_VALUES + (
    ("a",), ("a", "b", "c"), ("a", "a"), ("a", "b", "b"), ("a", ""), ("a", " "), ("a", "b c"), ["a", "b"], ("a", 1), "ab", ("a", ("b",)),
    ("a", None), ("a", True), (("a", "b"),), ("", ""),
)
HEAPS = SAMPLES + ((1, ()), (3, ()), (3, ((0, 2),))) + tuple(small_heaps(2, 2))


class TestSlips(Case):
    def test_examples(self):
        self.assert_exact(heap_of(GOOD), (("fox", "the"), (2, ((0, 1), (1, 0), (1, 1)))))
        self.assert_exact(slips_of(("a", "b"), (2, ((1, 0), (0, 0)))), (("b", "a"), ("a", "a")))

    def test_which_are_slips(self):
        for thing in (("a", "b"), ("a", "a"), ("0", "1"), ("A", "a"), (">", ":"), ("the", "fox.")):
            self.assert_exact(is_slip(thing), True)
        for thing in NOT_SLIPS_ALONE:
            self.assert_exact(is_slip(thing), False, thing)
        self.assert_exact(is_slip(thing=("a", "b")), True)

    def test_names_by_first_appearance(self):
        told = (("c", "a", "b"), (3, ((0, 1), (2, 0), (2, 2), (1, 0))))
        self.assert_exact(heap_of((("c", "a"), ("b", "c"), ("b", "b"), ("a", "c"))), told)
        self.assert_exact(heap_of((("x", "x"),)), (("x",), SINGLE))
        self.assert_exact(heap_of((("A", "a"), ("a", "A"))), (("A", "a"), (2, ((0, 1), (1, 0)))))

    def test_slips_of(self):
        self.assert_exact((slips_of(("a",), (1, ())), slips_of(("b", "a"), (2, ()))), ((), ()))
        for heap in HEAPS:
            names = tuple("zyxwvu"[word] for word in range(heap[0]))
            self.assert_exact(slips_of(names, heap), tuple((names[x], names[y]) for x, y in heap[1]))

    def test_slips_and_heaps_undo_each_other(self):
        rng = random.Random(73)
        for _ in range(200):
            words = ["w" + str(at) for at in range(rng.randrange(1, 9))]
            slips = tuple((rng.choice(words), rng.choice(words)) for _ in range(rng.randrange(1, 12)))
            names, heap = heap_of(slips)
            self.assert_exact(slips_of(names, heap), slips)
            row = [name for slip in slips for name in slip]
            self.assert_exact(names, tuple(dict.fromkeys(row)))
            self.assert_exact(heap, (len(names), tuple((names.index(x), names.index(y)) for x, y in slips)))

    def test_more_slips_than_a_book_has_leaves(self):
        slips = tuple(("w" + str(at), "w" + str(at + 1)) for at in range(1200))
        names, heap = heap_of(slips)
        self.assert_exact((heap[0], len(heap[1]), heap[1][-1]), (1201, 1200, (1199, 1200)))
        self.assert_exact(slips_of(names, heap), slips)
        self.assert_exact(slip_lines(slips)[1199], "w1199 w1200")

    def test_refusals(self):
        for wrong in NOT_SLIPS:
            self.assert_not_usable("slips", heap_of, wrong)
        self.assert_not_usable("slips", heap_of, ())
        for wrong in NOT_NAMES:
            self.assert_not_usable("names", slips_of, wrong, (2, ((1, 0), (0, 0))))
            self.assert_not_usable("names", slips_of, wrong, (2, ()))
        self.assert_not_usable("names", slips_of, (), ONE)
        self.assert_not_usable("names", slips_of, ("a", "b", "b"), RING)
        self.assert_exact(heap_of(slips=GOOD), heap_of(GOOD))
        self.assert_exact(slips_of(heap=EACH, names=("a", "b", "c"))[5], ("a", "c"))


class TestSlipLines(Case):
    def test_lines(self):
        self.assert_exact(slip_lines(GOOD), ("fox the", "the fox", "the the"))
        self.assert_exact(slip_lines((("a", "b"),)), ("a b",))
        self.assert_exact(slip_lines(slips=(("0", ">"), ("a", "a"))), ("0 >", "a a"))

    def test_refusals(self):
        for wrong in NOT_SLIPS + ((),):
            self.assert_not_usable("slips", slip_lines, wrong)
