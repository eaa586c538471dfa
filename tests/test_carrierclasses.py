import random
from itertools import product

from tests.cases import NOT_NUMBERS, Case
from tests.test_windows import NOT_TEXTS, NOT_WIDTHS
from unsewn.carrierclasses import Concordance
from unsewn.textnumbers import text_at
from unsewn.texts import texts_of
from unsewn.windows import alike_texts, counts_of, spelled, text_book


def alike_plainly(text, width):
    """All string texts alike the text, found by going through all strings of its characters."""
    rows = ["".join(row) for row in product(sorted(set(text)), repeat=len(text))]
    return [row for row in rows if alike_texts(text, row, width)]


class TestConcordance(Case):
    def test_examples(self):
        book = Concordance("abaab", 2)
        self.assert_exact((book.many(), book.kth(0), book.number("abaab")), (2, "aabab", 1))
        self.assert_not_usable("index", book.kth, 2)

    def test_edges(self):
        book = Concordance("ab", 2)
        self.assert_exact((book.many(), book.counts(), book.kth(0), book.number("ab")), (1, (("ab", 1),), "ab", 0))
        book = Concordance("aaaa", 3)
        self.assert_exact((book.many(), book.counts(), book.kth(0)), (1, (("aaa", 2),), "aaaa"))
        # The grams appear in another order than they ascend.
        book = Concordance("bcabab", 2)
        self.assert_exact([book.kth(index) for index in range(book.many())], alike_plainly("bcabab", 2))

    def test_against_all_strings(self):
        rng = random.Random(83)
        several = 0
        for _ in range(60):
            letters = rng.choice(("ab", "ba", "abc", "~ a"))
            text = "".join(rng.choice(letters) for _ in range(rng.randrange(2, 9 if len(letters) == 2 else 8)))
            for width in range(2, min(len(text), 4) + 1):
                told = alike_plainly(text, width)
                several += len(told) > 1
                book = Concordance(text, width)
                self.assert_exact(book.many(), len(told))
                self.assert_exact(book.counts(), counts_of(text, width))
                self.assert_exact([book.kth(index) for index in range(len(told))], told)
                self.assert_exact([book.number(other) for other in told], list(range(len(told))))
                grams, leaves, cover = text_book(text, width)
                self.assertEqual(sorted(spelled(grams, row) for row in texts_of(leaves, cover)), told)
        self.assertTrue(several > 30, several)

    def test_twenty_leaves(self):
        rng = random.Random(84)
        for _ in range(6):
            text = "".join(rng.choice("acgt") for _ in range(20))
            book = Concordance(text, 2)
            many = book.many()
            for index in sorted({0, many // 2, many - 1}):
                told = book.kth(index)
                self.assertTrue(alike_texts(text, told, 2))
                self.assert_exact(book.number(told), index)
            grams, leaves, cover = text_book(book.kth(0), 2)
            self.assertTrue(spelled(grams, text_at(leaves, cover, 0)) >= book.kth(0))

    def test_equal(self):
        one = Concordance("aabab", 2)
        self.assertTrue(one == Concordance("abaab", 2))
        self.assertFalse(one != Concordance("abaab", 2))
        for other in (
            Concordance("aabab", 3), Concordance("aabaab", 2), Concordance("babaa", 2), Concordance("ab", 2), "aabab", None, 2,
            ("aabab", 2), (),
        ):
            self.assertFalse(one == other)
            self.assertTrue(one != other)
        # The same windows, but other grams first and last.
        self.assertFalse(Concordance("abca", 2) == Concordance("bcab", 2))

    def test_refusals(self):
        wrong = {"text": NOT_TEXTS, "width": NOT_WIDTHS + (1, 4)}
        self.assert_refused_in_order(Concordance, (("text", "abc"), ("width", 2)), wrong)
        book = Concordance("abaab", 2)
        for index in NOT_NUMBERS + (2, 3):
            if index != 0:
                self.assert_not_usable("index", book.kth, index)
        for text in NOT_TEXTS + ("a", "ab", "abaaba", "babaa", "abbab", "aabba", "xxxxx", "abaa"):
            self.assert_not_usable("text", book.number, text)
        self.assert_exact((book.kth(index=1), book.number(text="aabab")), ("abaab", 0))
        self.assert_exact(Concordance(width=2, text="ab").many(), 1)

    def test_each_method_stands_in_the_class(self):
        for name in ("__init__", "many", "counts", "kth", "number", "__eq__"):
            self.assertIn(name, vars(Concordance))
