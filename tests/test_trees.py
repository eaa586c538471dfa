from itertools import islice, product
from math import factorial

from tests.books import (
    EACH, LOOSE, ODD_VALUES, ONE, PAIR, RING, SAMPLES, SINGLE, all_readings, all_trees, random_books, small_books,
)
from tests.cases import NOT_NUMBERS, Case
from tests.test_readings import NOT_READINGS
from unsewn.counts import reading_count, tree_count
from unsewn.errors import NotUsable
from unsewn.exits import exits_of, is_exits
from unsewn.heapcounts import fan_of
from unsewn.trees import is_tree, tree_of, trees_of

NOT_TREES = ODD_VALUES + (
    (None, 1), (None, 1, 2, 3), (None, 1, None), (0, 1, 2), [None, 1, 2], (None, True, 2), (None, 2, 1), (None, 3, 5),
    (None, 1, "2"), (None, 1, -1), (None, 1, 6), (None, (1,), 2), (False, 1, 2), ((), 1, 2), (None, 1, 0), ("", 1, 2),
    (None, 1, 5), (1, None, 2),
)
BOOKS = SAMPLES + tuple(small_books(3, 5)) + tuple(random_books(90, 20, 5, 8))


class TestTrees(Case):
    def test_examples(self):
        self.assert_exact(list(trees_of(EACH, 0)), [(None, 1, 2), (None, 3, 2), (None, 3, 4)])
        self.assert_exact(tree_of(EACH, (0, 3, 5, 4, 1, 2)), (None, 1, 2))

    def test_edges(self):
        for book in (ONE, SINGLE):
            self.assert_exact((list(trees_of(book, 0)), is_tree(book, 0, (None,))), ([(None,)], True))
        self.assert_exact((is_tree(ONE, 0, (0,)), is_tree(ONE, 0, ()), is_tree(ONE, 0, (None, None))), (False, False, False))
        self.assert_exact(tree_of(ONE, (2, 0, 1)), (None,))
        # A loop leads nowhere, and like leaves are told apart.
        self.assert_exact(list(trees_of(LOOSE, 1)), [(2, None), (3, None)])
        self.assert_exact(list(trees_of(LOOSE, 0)), [(None, 0), (None, 4)])
        self.assert_exact(is_tree(LOOSE, 1, (1, None)), False)
        self.assert_exact(list(trees_of(RING, 1)), [(0, None, 2)])
        # Leaves that lead round among themselves lead nowhere.
        self.assert_exact(is_tree(EACH, 0, (None, 1, 4)), False)

    def test_against_all_choices(self):
        for book in BOOKS:
            for word in range(book[0]):
                told = all_trees(book, word)
                trees = list(trees_of(book, word))
                self.assert_exact(trees, sorted(told, key=lambda tree: [leaf for leaf in tree if leaf is not None]))
                self.assertEqual(len(trees), tree_count(book, word))

    def test_which_are_trees(self):
        for book in (RING, EACH, LOOSE, PAIR, SINGLE) + tuple(random_books(91, 4, 3, 5)):
            for word in range(book[0]):
                told = all_trees(book, word)
                for thing in product([None] + list(range(len(book[1]))), repeat=book[0]):
                    self.assert_exact(is_tree(book, word, thing), thing in told)
        for thing in NOT_TREES:
            self.assert_exact(is_tree(EACH, 0, thing), False, thing)
        self.assert_exact(is_tree(thing=(None, 3, 4), word=0, book=EACH), True)

    def test_trees_of_readings(self):
        for book in BOOKS:
            for first in sorted({0, len(book[1]) - 1}):
                word = book[1][first][0]
                seen = {}
                for reading in all_readings(book, first):
                    tree = tree_of(book, reading)
                    told = tuple(None if w == word else row[-1] for w, row in enumerate(exits_of(book, reading)))
                    self.assert_exact(tree, told)
                    self.assert_exact(is_tree(book, word, tree), True)
                    seen[tree] = seen.get(tree, 0) + 1
                # Each tree has as many readings: all orders of the other leaves of each word.
                many = 1
                for w in range(book[0]):
                    many *= factorial(fan_of(book, w) - 1)
                self.assertEqual(seen, {tree: many for tree in trees_of(book, word)})
                self.assertEqual(reading_count(book), many * len(seen))

    def test_exits_end_in_trees(self):
        for first in range(len(LOOSE[1])):
            word = LOOSE[1][first][0]
            for tree in trees_of(LOOSE, word):
                rows = []
                for w in range(2):
                    begin = [i for i, leaf in enumerate(LOOSE[1]) if leaf[0] == w]
                    if w == word:
                        rows.append((first,) + tuple(i for i in begin if i != first))
                    else:
                        rows.append(tuple(i for i in begin if i != tree[w]) + (tree[w],))
                self.assert_exact(is_exits(LOOSE, first, tuple(rows)), True)

    def test_large_books(self):
        seen = 0
        for book in random_books(92, 80, 10, 40):
            if 100 < tree_count(book, 0) <= 2000:
                seen += 1
                for word in (0, book[0] - 1):
                    trees = list(trees_of(book, word))
                    bare = [tree[:word] + tree[word + 1:] for tree in trees]
                    self.assertEqual((len(trees), bare), (tree_count(book, word), sorted(set(bare))))
                    self.assertTrue(all(is_tree(book, word, tree) for tree in trees))
        self.assertTrue(seen >= 5, seen)

    def test_one_by_one(self):
        book = (10, tuple((x, (x + 1) % 10) for x in range(10)) * 4)
        self.assert_exact(list(islice(trees_of(book, 9), 2)), [tuple(range(9)) + (None,), tuple(range(8)) + (18, None)])

    def test_refusals(self):
        for wrong in NOT_NUMBERS + (3,):
            self.assert_not_usable("word", lambda book, word: list(trees_of(book, word)), EACH, wrong)
            self.assert_not_usable("word", is_tree, EACH, wrong, (None, 1, 2))
            self.assert_not_usable("word", is_tree, EACH, wrong, None)
        self.assert_refused_in_order(tree_of, (("book", RING), ("reading", (0, 1, 2))), {"reading": NOT_READINGS})
        self.assert_exact(tree_of(reading=(1, 2, 0), book=RING), (0, None, 2))
        self.assert_exact(list(trees_of(word=2, book=RING)), [(0, 1, None)])

    def test_errors_come_when_the_first_one_is_asked_for(self):
        made = trees_of(RING, None)
        with self.assertRaises(NotUsable):
            next(made)
