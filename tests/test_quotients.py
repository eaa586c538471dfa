from fractions import Fraction
from itertools import product

from tests.books import ODD_VALUES, as_pair, fraction
from tests.cases import Case
from unsewn.quotients import is_less, minus, over, plus, quotient, times, total

SOME = tuple(sorted({as_pair(Fraction(top, bottom)) for top in range(-4, 5) for bottom in range(1, 5)}))
NO_QUOTIENTS = ODD_VALUES + (1, (2, 4), (0, 2), (1, 0), (1, -1), (1, 2, 3), (1,), [1, 2], (True, 2), (1, True), ("1", 2))


class TestQuotient(Case):
    def test_examples(self):
        self.assert_exact(quotient(6, -4), (-3, 2))

    def test_lowest_terms(self):
        for top, bottom in product(range(-12, 13), repeat=2):
            if bottom != 0:
                self.assert_exact(quotient(top, bottom), as_pair(Fraction(top, bottom)))

    def test_a_thousand_figures(self):
        large = 10 ** 999
        self.assert_exact(quotient(2 * large, -4 * large), (-1, 2))
        self.assert_exact(quotient(large, large + 1), (large, large + 1))
        self.assert_exact(minus(quotient(large, 7), quotient(large, 7)), (0, 1))

    def test_refusals(self):
        for wrong in (None, True, False, "1", (), (1,), [1], (1, 2)):
            self.assert_not_usable("top", quotient, wrong, 1)
            self.assert_not_usable("top", quotient, wrong, 0)
            self.assert_not_usable("bottom", quotient, 1, wrong)
        self.assert_not_usable("bottom", quotient, 0, 0)
        self.assert_not_usable("bottom", quotient, 1, 0)


class TestReckoning(Case):
    def test_examples(self):
        self.assert_exact(over((1, 2), (-3, 4)), (-2, 3))
        self.assert_exact(total(((1, 2), (1, 3), (1, 6))), (1, 1))
        self.assert_not_usable("one", minus, (2, 4), (0, 1))

    def test_all_pairs(self):
        for one, other in product(SOME, repeat=2):
            first, second = fraction(one), fraction(other)
            self.assert_exact(plus(one, other), as_pair(first + second))
            self.assert_exact(minus(one, other), as_pair(first - second))
            self.assert_exact(times(one, other), as_pair(first * second))
            self.assert_exact(is_less(one, other), first < second)
            if second != 0:
                self.assert_exact(over(one, other), as_pair(first / second))

    def test_totals(self):
        self.assert_exact(total(()), (0, 1))
        self.assert_exact(total(((-1, 2),)), (-1, 2))
        self.assert_exact(total(SOME), as_pair(sum(fraction(part) for part in SOME)))

    def test_refusals(self):
        good = (("one", (1, 2)), ("other", (1, 3)))
        for call in (plus, minus, times, over, is_less):
            self.assert_refused_in_order(call, good, {"one": NO_QUOTIENTS, "other": NO_QUOTIENTS})
        self.assert_not_usable("other", over, (1, 2), (0, 1))
        self.assert_not_usable("one", over, (2, 2), (0, 1))
        for wrong in (None, 1, (1, 2), ((1, 2), (2, 4)), [(1, 2)], ((1, 2), None), ((1, 2), [1, 2]), "12", (((1, 2),),)):
            self.assert_not_usable("quotients", total, wrong)
