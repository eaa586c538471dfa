from tests.books import EACH, LOOSE, ODD_VALUES, RING, SAMPLES, random_books
from tests.cases import Case
from tests.test_grounds import NOT_TABLES, SQUARE
from unsewn.errors import InvalidText
from unsewn.tablereadings import read_table
from unsewn.tables import table_of
from unsewn.tabletexts import table_lines

NO_PARTS = (
    "", "/", "1", "0", "1/", "/1", "-/1", "1/0", "0/0", "-1/0", "2/4", "0/2", "-2/2", "3/3", "-0/1", "-0/2", "00/1", "01/2", "1/02",
    "-01/2", "1/-2", "-1/-2", "+1/2", "1/+2", "--1/2", "1//2", "1/2/3", "1/2/", "/1/2", "a/b", "1/b", "a/1", "1.0/1", "1,2", "1:2",
    "1_0/3", "1/1_0", "0x1/2", "1/2,", "(1, 2)", "-", "0/-1", "0/01", "1-/2", "1/2-",
)


class TestTableLines(Case):
    def test_examples(self):
        self.assert_exact(table_lines((((1, 2), (0, 1)), ((-3, 1), (0, 1)))), ("1/2 0/1", "-3/1 0/1"))

    def test_lines(self):
        self.assert_exact(table_lines(SQUARE), ("1/2 -3/4 5/1", "0/1 7/3 1/1", "2/5 -1/1 9/2"))
        self.assert_exact(table_lines((((-10, 11),),)), ("-10/11",))
        self.assert_exact(table_lines(table=table_of(LOOSE, 1)), ("1/2 0/1", "0/1 0/1"))

    def test_refusals(self):
        for wrong in NOT_TABLES:
            self.assert_not_usable("table", table_lines, wrong)


class TestReadTable(Case):
    def assert_invalid(self, line, field, lines):
        with self.assertRaises(InvalidText) as caught:
            read_table(lines)
        self.assert_exact((caught.exception.line, caught.exception.field), (line, field), lines)

    def test_examples(self):
        self.assert_invalid(1, -1, ("1/2 0/1", "0/1"))
        self.assert_invalid(1, 1, ("1/2 0/1", "0/1  0/1"))

    def test_lines_and_tables_undo_each_other(self):
        tables = [SQUARE, (((0, 1),),), (((-7, 9),),)]
        for book in SAMPLES + tuple(random_books(110, 8, 10, 40)):
            tables.extend(table_of(book, ground) for ground in range(book[0]))
        for table in tables:
            self.assert_exact(read_table(table_lines(table)), table)
        self.assert_exact(table_lines(read_table(("1/2 -3/4", "0/1 10/7"))), ("1/2 -3/4", "0/1 10/7"))

    def test_a_thousand_figures(self):
        large = 10 ** 999
        table = (((large + 1, large), (-large, 1)), ((0, 1), (1, large)))
        self.assert_exact(read_table(table_lines(table)), table)

    def test_parts(self):
        for part in NO_PARTS:
            self.assert_invalid(0, 0, (part,))
            self.assert_invalid(1, 1, ("0/1 0/1", "0/1 " + part))
            self.assert_invalid(1, 0, ("0/1 0/1", part + " 0/1"))
            # The part comes ahead of how many there are, and the first line ahead of the next ones.
            self.assert_invalid(0, 2, ("1/1 0/1 " + part, "0/1", "x"))
            self.assert_invalid(0, 0, (part + " " + part, part))

    def test_how_many_parts(self):
        self.assert_invalid(0, -1, ("0/1 0/1",))
        self.assert_invalid(0, -1, ("0/1", "0/1 0/1"))
        self.assert_invalid(0, -1, ("0/1 0/1 0/1", "x"))
        self.assert_invalid(1, -1, ("0/1 0/1", "0/1 0/1 0/1"))
        self.assert_invalid(2, -1, ("0/1 0/1 0/1", "0/1 0/1 0/1", "0/1 0/1"))

    def test_spaces(self):
        self.assert_invalid(0, 0, ("",))
        self.assert_invalid(0, 0, (" ",))
        self.assert_invalid(0, 0, (" 0/1",))
        self.assert_invalid(0, 1, ("0/1 ",))
        self.assert_invalid(0, 1, ("0/1 ", "0/1 0/1"))
        self.assert_invalid(0, 1, ("0/1  0/1", "0/1 0/1"))
        self.assert_invalid(0, 0, ("0 /1", "0/1 0/1"))

    def test_refusals(self):
        for wrong in ODD_VALUES + ([], ["0/1"], ("0/1", None), ("0/1", 1), (("0/1",),), ("0/1", ["0/1"]), 1, "0/1", (True,)):
            self.assert_not_usable("lines", read_table, wrong)
        # A value that is no string is refused ahead of a line that is wrong.
        self.assert_not_usable("lines", read_table, ("x", None))
        self.assert_exact(read_table(lines=("0/1",)), (((0, 1),),))
        self.assert_exact(read_table(table_lines(table_of(EACH, 2))), table_of(EACH, 2))
        self.assert_exact(read_table(("1/1 1/1 0/1", "0/1 1/1 0/1", "0/1 0/1 0/1")), table_of(RING, 2))
