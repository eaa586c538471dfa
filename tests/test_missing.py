import random
from itertools import combinations_with_replacement, product

from tests.books import EACH, LOOSE, ODD_VALUES, ONE, RING, SINGLE, is_book_plainly, random_book, small_heaps
from tests.cases import Case
from unsewn.errors import InvalidPaper
from unsewn.mendchecker import lets_mend
from unsewn.mending import mend_count, mend_leaves
from unsewn.missing import missing_leaf

HEAPS = tuple(small_heaps(3, 3)) + tuple(small_heaps(2, 4))


class TestMissing(Case):
    def test_examples(self):
        told = missing_leaf((2, ((0, 1),))), missing_leaf(RING), missing_leaf((2, ()))
        self.assert_exact(told, (("leaf", (1, 0)), ("loop",), ("none",)))

    def test_edges(self):
        self.assert_exact((missing_leaf((1, ())), missing_leaf(SINGLE), missing_leaf(ONE)), (("loop",),) * 3)
        # A piece more, a word more, or two leaves missing.
        self.assert_exact(missing_leaf((2, ((0, 0), (1, 1)))), ("none",))
        self.assert_exact(missing_leaf((3, ((0, 1), (2, 2)))), ("none",))
        self.assert_exact(missing_leaf((3, ((0, 1), (0, 2)))), ("none",))
        self.assert_exact(missing_leaf((3, ((0, 1), (1, 2)))), ("leaf", (2, 0)))

    def test_against_all_leaves(self):
        found = {}
        for heap in HEAPS:
            size, leaves = heap
            more = [pair for pair in product(range(size), repeat=2) if is_book_plainly((size, leaves + (pair,)))]
            apart = [(x, y) for x, y in more if x != y]
            told = ("leaf", apart[0]) if apart else (("loop",) if more else ("none",))
            self.assertTrue(len(apart) <= 1 and not (apart and len(more) > 1))
            self.assert_exact(missing_leaf(heap), told)
            found[told[0]] = found.get(told[0], 0) + 1
            if not is_book_plainly(heap):
                self.assertEqual(mend_count(heap) == 1, told != ("none",))
        self.assertTrue(min(found.values()) > 20 and len(found) == 3, found)

    def test_a_leaf_of_a_book_lost(self):
        rng = random.Random(85)
        for _ in range(20):
            book = random_book(rng, rng.randrange(2, 11), 40)
            x, y = book[1][-1]
            self.assert_exact(missing_leaf(heap=(book[0], book[1][:-1])), ("loop",) if x == y else ("leaf", (x, y)))


class TestMendChecker(Case):
    def assert_invalid(self, word, heap, thing):
        with self.assertRaises(InvalidPaper) as caught:
            lets_mend(heap, thing)
        self.assert_exact((caught.exception.word, caught.exception.at), (word, -1), thing)

    def test_examples(self):
        self.assert_exact(lets_mend((3, ((0, 1), (0, 1))), ((1, 0), (1, 2), (2, 0))), 3)
        self.assert_invalid("many", RING, ((1, 1),))

    def test_edges(self):
        # A book needs no leaf, and none may be put to it.
        for book in (RING, EACH, LOOSE, SINGLE):
            self.assert_exact(lets_mend(book, ()), 0)
            self.assert_invalid("many", book, ((0, 0),))
        self.assert_invalid("book", (1, ()), ())
        self.assert_exact(lets_mend((1, ()), ((0, 0),)), 1)
        self.assert_invalid("many", (1, ()), ((0, 0), (0, 0)))

    def test_kind(self):
        for thing in ODD_VALUES + (
            (0, 1), [(0, 1)], ([0, 1],), ((0, 1), None), ((0,),), ((0, 1, 2),), ((0, 3),), ((3, 0),), ((-1, 0),), ((0, True),), ((False, 1),),
            ((0, "1"),), (((0, 1),),), "01", 3,
        ):
            if thing != ():
                self.assert_invalid("kind", (3, ((0, 1), (0, 1))), thing)
                self.assert_invalid("kind", RING, thing)
        self.assert_invalid("book", (3, ((0, 1), (0, 1))), ())

    def test_against_the_least_of_all_ways(self):
        words = {}
        for heap in small_heaps(2, 3):
            size, leaves = heap
            pairs = list(product(range(size), repeat=2))
            least = None
            for many in range(5):
                for row in combinations_with_replacement(pairs, many):
                    told = row[::-1]
                    if not is_book_plainly((size, leaves + told)):
                        self.assert_invalid("book", heap, told)
                        words["book"] = words.get("book", 0) + 1
                    elif least is not None and many > least:
                        self.assert_invalid("many", heap, told)
                        words["many"] = words.get("many", 0) + 1
                    else:
                        least = many
                        self.assert_exact(lets_mend(heap, told), many)
            self.assertEqual(least, mend_count(heap))
            self.assert_exact(lets_mend(heap, mend_leaves(heap)), least)
        self.assertTrue(min(words.values()) > 100, words)

    def test_larger_heaps(self):
        rng = random.Random(86)
        for _ in range(30):
            size = rng.randrange(1, 11)
            heap = (size, tuple((rng.randrange(size), rng.randrange(size)) for _ in range(rng.randrange(40))))
            told = mend_leaves(heap)
            self.assert_exact(lets_mend(thing=told, heap=heap), mend_count(heap))
            self.assert_invalid("many", heap, told + ((0, 0),))
