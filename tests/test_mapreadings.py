from tests.books import EACH, ODD_VALUES, random_books, threes
from tests.cases import Case
from unsewn.errors import InvalidText
from unsewn.mapreadings import read_map
from unsewn.maps import map_of
from unsewn.maptexts import map_lines

NO_FIELDS = ("", ":", "::", "1::", ":1", "01", "00:", "01:", "-1", "-1:", "+1", "1.", "a", "a:", "1a", "1:2", "1,", "1_0", "0x1", "1;")
NOT_LINES = tuple(thing for thing in ODD_VALUES) + ([], ["0: 1"], ("0: 1", None), ("0: 1", 1), (("0: 1",),), "0: 1", 1, (b"0: 1",))


class TestReadMap(Case):
    def assert_invalid(self, line, field, lines):
        with self.assertRaises(InvalidText) as caught:
            read_map(lines)
        self.assert_exact((caught.exception.line, caught.exception.field), (line, field), lines)

    def test_examples(self):
        self.assert_invalid(1, 1, ("0: 1", "0  3: 1"))

    def test_lines(self):
        self.assert_exact(read_map(("0: 1",)), (((0,),), ((1,),)))
        self.assert_exact(read_map(("0 12: 3 5 0", "7: 7")), (((0, 12), (7,)), ((3, 5, 0), (7,))))
        # Any chart will do: its numbers need not ascend, nor belong to a book.
        self.assert_exact(read_map(("3 3 1: 2", "3 3 1: 2")), (((3, 3, 1),) * 2, ((2,),) * 2))
        large = 10 ** 1300
        self.assert_exact(read_map((f"{large}: {large} 0",)), (((large,),), ((large, 0),)))

    def test_lines_and_charts_undo_each_other(self):
        found = 0
        charts = [(((0, 10), (2,)), ((1, 100), (5,)))]
        for book in (EACH,) + tuple(random_books(73, 12, 4, 7)):
            charts.extend(map_of(book, three) for three in list(threes(book))[::7])
        for chart in charts:
            if chart is not None:
                found += 1
                self.assert_exact(read_map(map_lines(chart)), chart)
        self.assertTrue(found > 25, found)
        lines = ("0 3: 3 5", "1 4: 4 3", "2 5: 5 4")
        self.assert_exact(map_lines(read_map(lines)), lines)

    def test_fields(self):
        for field in NO_FIELDS:
            self.assert_invalid(0, 0, (field,))
            self.assert_invalid(0, 0, (field + " 1",))
            self.assert_invalid(0, 1, ("0 " + field + " 1: 2",))
            self.assert_invalid(0, 1, ("0: " + field,))
            self.assert_invalid(1, 2, ("0: 1", "0: 1 " + field + " 3", "x"))
            # What is no field comes ahead of where the colons stand.
            self.assert_invalid(0, 2, ("0: 1: " + field,))

    def test_colons(self):
        for line in ("0", "0 1", "0:", "0 1:", "0: 1:", "0: 1: 2", "0: 1 2:", "0: 0: 0:"):
            self.assert_invalid(0, -1, (line,))
            self.assert_invalid(1, -1, ("0: 1", line, ""))

    def test_spaces(self):
        self.assert_invalid(0, 0, ("",))
        self.assert_invalid(0, 0, (" ",))
        self.assert_invalid(0, 0, (" 0: 1",))
        self.assert_invalid(0, 2, ("0: 1 ",))
        self.assert_invalid(0, 1, ("0:  1",))
        self.assert_invalid(0, 1, ("0 : 1",))
        self.assert_invalid(0, 0, ("0:1",))

    def test_refusals(self):
        for wrong in NOT_LINES:
            self.assert_not_usable("lines", read_map, wrong)
        # A value that is no string is refused ahead of a line that is wrong.
        self.assert_not_usable("lines", read_map, ("x", None))
        self.assert_exact(read_map(lines=("0: 1",)), (((0,),), ((1,),)))
