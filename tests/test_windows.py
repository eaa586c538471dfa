import random
from collections import Counter
from itertools import product

from tests.books import ODD_VALUES, is_book_plainly
from tests.cases import Case
from unsewn.windows import alike_texts, counts_of, spelled, text_book, windows_of

NOT_TEXTS = tuple(thing for thing in ODD_VALUES if not isinstance(thing, str)) + ("", ("a",), ["a"], 1, b"ab")
NOT_WIDTHS = (None, True, False, 0, -1, 10 ** 59, "2", (2,), [2], ())
NOT_GRAMS = tuple(thing for thing in ODD_VALUES if not isinstance(thing, str)) + (
    "ab", ("a", "a"), ("a", "bc"), ("",), ("", "a"), ("ab", "b"), ["ab", "ba"], ("ab", 1), ("ab", None), ("ab", ("b", "a")), ("ab", "ba", "ab"),
)
NOT_SPELLINGS = (
    None, True, 0, "01", (), [0], [0, 1], (True,), (0, True), (False, 1), (2,), (0, 2), (-1,), (0, None), (0, "1"), ((0, 1),), (0, 0),
    (0, 1, 1), (1, 1, 0), (10 ** 59,),
)


def some_texts():
    rng = random.Random(75)
    told = ["".join(row) for many in range(1, 6) for row in product("ab", repeat=many)]
    return told + ["".join(rng.choice("abc~ 0") for _ in range(rng.randrange(1, 25))) for _ in range(60)]


class TestWindows(Case):
    def test_examples(self):
        self.assert_exact(text_book("aabab", 2), (("a", "b"), (2, ((0, 0), (0, 1), (1, 0), (0, 1), (1, 0))), 4))
        self.assert_exact(spelled(("ab", "ba"), (0, 1, 0)), "abab")
        self.assert_exact((alike_texts("aabab", "abaab", 2), alike_texts("aba", "bab", 2)), (True, False))

    def test_windows(self):
        self.assert_exact(windows_of("abc", 1), ("a", "b", "c"))
        self.assert_exact((windows_of("abc", 2), windows_of("abc", 3)), (("ab", "bc"), ("abc",)))
        self.assert_exact(windows_of("a a ", 2), ("a ", " a", "a "))
        self.assert_exact(windows_of(width=1, text="a"), ("a",))

    def test_counts(self):
        self.assert_exact(counts_of("aabab", 2), (("aa", 1), ("ab", 2), ("ba", 1)))
        self.assert_exact(counts_of("b a", 1), ((" ", 1), ("a", 1), ("b", 1)))
        for text in some_texts():
            for width in range(1, len(text) + 1):
                told = [text[at:at + width] for at in range(len(text)) if at + width <= len(text)]
                self.assert_exact(windows_of(text, width), tuple(told))
                self.assert_exact(counts_of(text, width), tuple(sorted(Counter(told).items())))
        self.assert_exact(counts_of(width=2, text="aaaa"), (("aa", 3),))

    def test_books_of_texts(self):
        self.assert_exact(text_book("ab", 2), (("a", "b"), (2, ((0, 1), (1, 0))), 1))
        self.assert_exact(text_book("aa", 2), (("a",), (1, ((0, 0), (0, 0))), 1))
        self.assert_exact(text_book("abab", 3), (("ab", "ba"), (2, ((0, 1), (1, 0), (0, 0))), 2))
        self.assert_exact(text_book(width=3, text="abc"), (("ab", "bc"), (2, ((0, 1), (1, 0))), 1))
        for text in some_texts():
            for width in range(2, len(text) + 1):
                grams, book, cover = text_book(text, width)
                row = [text[at:at + width - 1] for at in range(len(text) - width + 2)]
                self.assert_exact(grams, tuple(dict.fromkeys(row)))
                told = [(grams.index(one), grams.index(other)) for one, other in zip(row, row[1:])]
                self.assert_exact(book, (len(grams), tuple(told) + ((grams.index(row[-1]), grams.index(row[0])),)))
                self.assert_exact(cover, len(text) - width + 1)
                self.assertTrue(is_book_plainly(book))
                self.assert_exact(spelled(grams, tuple(grams.index(gram) for gram in row)), text)

    def test_long_texts(self):
        rng = random.Random(76)
        text = "".join(rng.choice("abcdefgh") for _ in range(4000))
        grams, book, cover = text_book(text, 4)
        self.assert_exact((len(book[1]), cover), (3998, 3997))
        self.assertEqual(sum(count for _, count in counts_of(text, 2000)), 2001)
        self.assertTrue(alike_texts(text, text, 3))
        row = [grams.index(text[at:at + 3]) for at in range(3998)]
        self.assert_exact(spelled(grams, tuple(row)), text)

    def test_spelled(self):
        self.assert_exact(spelled(("b", "a"), (1, 0, 0, 1)), "abba")
        self.assert_exact(spelled(("ab",), (0,)), "ab")
        self.assert_exact(spelled(("aaa",), (0, 0, 0)), "aaaaa")
        self.assert_exact(spelled(text=(0, 1, 2), grams=("abc", "bcd", "cde")), "abcde")
        self.assert_exact(spelled(("ab", "xx", "ba"), (2, 0)), "bab")

    def test_alike(self):
        texts = ["".join(row) for many in (3, 4, 5) for row in product("ab", repeat=many)]
        found = 0
        for width in (2, 3):
            for one in texts:
                for other in texts:
                    told = all((
                        counts_of(one, width) == counts_of(other, width), one[:width - 1] == other[:width - 1],
                        one[1 - width:] == other[1 - width:]))
                    found += told and one != other
                    self.assert_exact(alike_texts(one, other, width), told)
        self.assertTrue(found > 10, found)
        self.assert_exact(alike_texts("aba", "bab", 3), False)
        self.assert_exact(alike_texts(width=2, other="abaab", one="aabab"), True)
        # The same windows of width two, but other grams first and last.
        self.assert_exact(alike_texts("abcab", "bcabc", 2), False)
        self.assert_exact(alike_texts("abca", "bcab", 2), False)

    def test_refusals(self):
        for call, least in ((windows_of, 1), (counts_of, 1), (text_book, 2)):
            wrong = {"text": NOT_TEXTS, "width": NOT_WIDTHS + (4,) + ((1,) if least == 2 else ())}
            self.assert_refused_in_order(call, (("text", "abc"), ("width", 2)), wrong)
            self.assert_exact(len(call("abc", 3)), 3 if least == 2 else 1)
        self.assert_not_usable("width", text_book, "a", 1)
        self.assert_not_usable("width", text_book, "a", 2)
        wrong = {"one": NOT_TEXTS, "other": NOT_TEXTS, "width": NOT_WIDTHS + (1, 4)}
        self.assert_refused_in_order(alike_texts, (("one", "abcd"), ("other", "abc"), ("width", 3)), wrong)
        self.assert_refused_in_order(alike_texts, (("one", "abc"), ("other", "abcd"), ("width", 3)), wrong)
        for width in (1, 2):
            self.assert_not_usable("width", alike_texts, "a", "abc", width)
        wrong = {"grams": NOT_GRAMS, "text": NOT_SPELLINGS}
        self.assert_refused_in_order(spelled, (("grams", ("ab", "ba")), ("text", (0, 1))), wrong)
