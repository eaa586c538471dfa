import random

from tests.cases import Case
from tests.test_mapreadings import NOT_LINES
from unsewn.errors import InvalidText
from unsewn.slipreadings import read_slips
from unsewn.sliptexts import slip_lines


class TestReadSlips(Case):
    def assert_invalid(self, line, field, lines):
        with self.assertRaises(InvalidText) as caught:
            read_slips(lines)
        self.assert_exact((caught.exception.line, caught.exception.field), (line, field), lines)

    def test_examples(self):
        self.assert_invalid(1, 1, ("b a", "a "))

    def test_lines(self):
        self.assert_exact(read_slips(("b a",)), (("b", "a"),))
        self.assert_exact(read_slips(("fox the", "the fox", "the the")), (("fox", "the"), ("the", "fox"), ("the", "the")))
        self.assert_exact(read_slips(lines=("0 >", ": -1")), (("0", ">"), (":", "-1")))

    def test_lines_and_slips_undo_each_other(self):
        rng = random.Random(74)
        for _ in range(100):
            slips = tuple((rng.choice("abc!~"), rng.choice(("x", "yy", "0>1"))) for _ in range(rng.randrange(1, 9)))
            self.assert_exact(read_slips(slip_lines(slips)), slips)
        lines = tuple(f"{at} {at + 1}" for at in range(1500))
        self.assert_exact(slip_lines(read_slips(lines)), lines)

    def test_parts(self):
        for line, field in (
            ("", -1), ("a", -1), ("a b c", -1), (" ", 0), ("a ", 1), (" a", 0), ("a  b", -1), (" a b", -1), ("a b ", -1), ("  ", -1),
            ("   ", -1), ("  a", -1),
        ):
            self.assert_invalid(0, field, (line,))
            self.assert_invalid(1, field, ("a b", line, "", " "))

    def test_refusals(self):
        for wrong in NOT_LINES:
            self.assert_not_usable("lines", read_slips, wrong)
        self.assert_not_usable("lines", read_slips, ("a", None))
