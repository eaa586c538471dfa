from tests.books import EACH, LOOSE, ODD_VALUES, ONE, PAIR, RING, SAMPLES, SINGLE, random_books, small_heaps
from tests.cases import Case
from unsewn.bookreadings import read_book
from unsewn.booktexts import book_line
from unsewn.errors import InvalidRow
from unsewn.numerals import is_numeral

NO_LINES = (
    "", " ", ":", "3", "3 ", "3:0>1", "3 :", " 3:", "3: ", "3:  0>1", "3: 0>1 ", "3: 0>1  1>2", "3:: 0>1", "3: 0>1:", "03:", "00:",
    "0:", "0: 0>0", "-3:", "+3:", "3.:", "three:", "3: 0", "3: 0>", "3: >0", "3: >", "3: 0>1>2", "3: 0>>1", "3: 0<1", "3: 0-1",
    "3: 0 > 1", "3: 00>1", "3: 0>01", "3: 01>02", "3: -0>1", "3: 0>-1", "3: +0>1", "3: 0>3", "3: 3>0", "1: 0>0 0>1", "3: 0>1,1>2",
    "3: 0>1 1", "3: a>b", "3: 0>1.", "3; 0>1", "0x3:", "1_0: 0>9", "1_0:", "10: 0>1_", "3: 0>1 x", "2: 0>2",
)


class TestBookLines(Case):
    def assert_no_line(self, thing):
        with self.assertRaises(InvalidRow) as caught:
            read_book(thing)
        self.assertIs(caught.exception.row, thing)

    def test_examples(self):
        self.assert_exact((book_line(RING), book_line((2, ()))), ("3: 0>1 1>2 2>0", "2:"))
        self.assert_exact(read_book("2: 0>1"), (2, ((0, 1),)))
        with self.assertRaises(InvalidRow) as caught:
            read_book("2: 0>2")
        self.assert_exact(caught.exception.row, "2: 0>2")

    def test_edges(self):
        self.assert_exact((book_line((1, ())), read_book("1:"), read_book("2:")), ("1:", (1, ()), (2, ())))
        self.assert_exact(book_line((11, ((10, 0), (0, 10)))), "11: 10>0 0>10")
        self.assert_exact(read_book("11: 10>0 0>10"), (11, ((10, 0), (0, 10))))
        self.assert_exact((book_line(LOOSE), book_line(SINGLE)), ("2: 1>0 0>0 0>1 0>1 1>0", "1: 0>0"))

    def test_lines_and_heaps_undo_each_other(self):
        heaps = SAMPLES + tuple(small_heaps(2, 3)) + tuple(small_heaps(3, 2)) + tuple(random_books(20, 10, 10, 40))
        lines = {}
        for heap in heaps:
            line = book_line(heap)
            self.assertEqual(line, " ".join([f"{heap[0]}:"] + [f"{x}>{y}" for x, y in heap[1]]))
            self.assert_exact(read_book(line), heap)
            self.assertEqual(lines.setdefault(line, heap), heap)

    def test_heaps_of_any_size(self):
        wide = (10 ** 59, ((10 ** 59 - 1, 0), (7, 10 ** 58)))
        self.assert_exact(read_book(book_line(wide)), wide)
        long = (30, tuple((word, (word * 7) % 30) for word in range(30)) * 15)
        self.assert_exact(read_book(book_line(long)), long)

    def test_any_value(self):
        for thing in NO_LINES + ODD_VALUES + (3, 0, RING, ["3:"], ("3:",), ("2: 0>1",)):
            self.assert_no_line(thing)
        self.assert_exact((read_book(line="1: 0>0"), book_line(heap=ONE)), (SINGLE, "1: 0>0 0>0 0>0"))

    def test_one_character_changed(self):
        line = book_line(EACH)
        for at in range(len(line)):
            for sign in "0 9>:-":
                changed = line[:at] + sign + line[at + 1:]
                try:
                    self.assertEqual(book_line(read_book(changed)), changed)
                except InvalidRow as caught:
                    self.assertIs(caught.row, changed)

    def test_numerals(self):
        for text in ("0", "1", "10", "907", "1" + "0" * 90):
            self.assert_exact(is_numeral(text), True)
        for text in ("", "00", "01", "-0", "-1", "+1", "1 ", " 1", "1.0", "a", "1_0", "\u00b2", "\u0661"):
            self.assert_exact(is_numeral(text), False)
        self.assert_exact(read_book("2: 0>1 1>0"), PAIR)
