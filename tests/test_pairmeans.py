from itertools import product

from tests.books import (
    EACH, LOOSE, ONE, RING, SAMPLES, SINGLE, all_readings, fraction, random_books, share, small_books,
)
from tests.cases import NOT_NUMBERS, NOT_TUPLES, Case
from tests.test_texts import LIKE, plain_text
from unsewn.pairmeans import pair_mean

NOT_PAIRS = NOT_TUPLES + (
    (), (0,), (0, 1, 0), (0, 2), (2, 0), (-1, 0), (0, True), (False, 0), (0, None), (0, "1"), ((0, 1),), [0, 1], (0, 10 ** 59),
)


def often(text, one, other):
    """How often a step one stands further left than a step other."""
    steps = list(zip(text, text[1:]))
    return sum(steps[at] == one and steps[k] == other for at in range(len(steps)) for k in range(at + 1, len(steps)))


class TestPairMeans(Case):
    def test_examples(self):
        told = pair_mean(LOOSE, 0, (0, 0), (0, 1)), pair_mean(LOOSE, 0, (0, 1), (0, 1))
        self.assert_exact(told, ((3, 2), (1, 1)))

    def test_edges(self):
        self.assert_exact(pair_mean(SINGLE, 0, (0, 0), (0, 0)), (0, 1))
        # A step that no leaf has, or only the cover.
        self.assert_exact((pair_mean(RING, 0, (1, 0), (1, 2)), pair_mean(RING, 0, (1, 2), (0, 0))), ((0, 1), (0, 1)))
        self.assert_exact((pair_mean(RING, 0, (0, 1), (1, 2)), pair_mean(RING, 0, (1, 2), (0, 1))), ((0, 1), (0, 1)))
        self.assert_exact((pair_mean(RING, 0, (1, 2), (2, 0)), pair_mean(RING, 0, (2, 0), (1, 2))), ((1, 1), (0, 1)))
        self.assert_exact(pair_mean(ONE, 1, (0, 0), (0, 0)), (1, 1))

    def test_against_all_texts(self):
        for book in SAMPLES + (LIKE,) + tuple(small_books(3, 5)) + tuple(random_books(81, 12, 4, 7)):
            for cover in range(0, len(book[1]), 2):
                texts = sorted({plain_text(book, reading) for reading in all_readings(book, cover)})
                pairs = list(product(range(book[0]), repeat=2))
                for one in pairs:
                    for other in pairs:
                        told = share(sum(often(text, one, other) for text in texts), len(texts))
                        self.assert_exact(pair_mean(book, cover, one, other), told)

    def test_consequences(self):
        for book in random_books(82, 8, 10, 40):
            rest = book[1][1:]
            for one in sorted(set(rest))[:4]:
                k = rest.count(one)
                self.assertEqual(fraction(pair_mean(book, 0, one, one)), k * (k - 1) // 2)
                for other in sorted(set(rest))[-3:]:
                    if one != other:
                        both = fraction(pair_mean(book, 0, one, other)) + fraction(pair_mean(book, 0, other, one))
                        self.assertEqual(both, k * rest.count(other))

    def test_refusals(self):
        good = (("book", LOOSE), ("cover", 0), ("one", (0, 0)), ("other", (0, 1)))
        wrong = {"cover": NOT_NUMBERS + (5,), "one": NOT_PAIRS, "other": NOT_PAIRS}
        self.assert_refused_in_order(pair_mean, good, wrong)
        self.assert_exact(pair_mean(other=(0, 1), one=(0, 0), cover=0, book=LOOSE), (3, 2))
        self.assert_exact(pair_mean(EACH, 0, (1, 2), (2, 0)), (1, 1))
