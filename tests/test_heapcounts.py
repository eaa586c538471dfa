from tests.books import EACH, LOOSE, ONE, RING, SAMPLES, random_books
from tests.cases import NOT_NUMBERS, Case
from unsewn.heapcounts import (
    ends_of, fan_of, from_word, like_leaves, like_sets, loops_of, surplus_of, to_word,
)

HEAPS = SAMPLES + (
    (1, ()), (3, ()), (2, ((0, 1),)), (3, ((0, 0), (1, 2))), (3, ((2, 1), (2, 1), (1, 1), (2, 1), (1, 1))),
) + tuple(random_books(14, 20, 10, 40))


class TestCounts(Case):
    def test_examples(self):
        self.assert_exact((fan_of(LOOSE, 0), ends_of(LOOSE, 0), surplus_of((2, ((0, 1),)), 0)), (3, 3, -1))
        self.assert_not_usable("word", fan_of, LOOSE, 2)
        self.assert_exact((loops_of(LOOSE), from_word(LOOSE, 0), to_word(LOOSE, 0)), ((1,), (1, 2, 3), (0, 1, 4)))
        told = (like_leaves(LOOSE, 4), like_leaves(LOOSE, 1), like_sets(LOOSE))
        self.assert_exact(told, ((0, 4), (1,), ((0, 4), (2, 3))))

    def test_edges(self):
        self.assert_exact((fan_of(ONE, 0), ends_of(ONE, 0), surplus_of(ONE, 0), loops_of(ONE)), (3, 3, 0, (0, 1, 2)))
        self.assert_exact((fan_of((3, ()), 2), ends_of((3, ()), 2), from_word((3, ()), 2)), (0, 0, ()))
        self.assert_exact((loops_of(EACH), like_sets(EACH), like_sets((1, ()))), ((), (), ()))
        self.assert_exact(like_sets(ONE), ((0, 1, 2),))
        self.assert_exact(surplus_of((2, ((0, 1),)), 1), 1)
        # Like are leaves with equal pairs, not those between the same words the other way.
        self.assert_exact(like_sets((2, ((0, 1), (1, 0)))), ())

    def test_by_definition(self):
        for heap in HEAPS:
            size, leaves = heap
            self.assert_exact(loops_of(heap), tuple(i for i, leaf in enumerate(leaves) if leaf[0] == leaf[1]))
            for word in range(size):
                begin = tuple(i for i, leaf in enumerate(leaves) if leaf[0] == word)
                end = tuple(i for i, leaf in enumerate(leaves) if leaf[1] == word)
                self.assert_exact((from_word(heap, word), to_word(heap, word)), (begin, end))
                self.assert_exact((fan_of(heap, word), ends_of(heap, word)), (len(begin), len(end)))
                self.assert_exact(surplus_of(heap, word), len(end) - len(begin))
            self.assertEqual(sum(surplus_of(heap, word) for word in range(size)), 0)
            sets = set()
            for at, leaf in enumerate(leaves):
                alike = tuple(i for i, other in enumerate(leaves) if other == leaf)
                self.assert_exact(like_leaves(heap, at), alike)
                if len(alike) > 1:
                    sets.add(alike)
            self.assert_exact(like_sets(heap), tuple(sorted(sets)))

    def test_refusals(self):
        for call in (fan_of, ends_of, surplus_of, from_word, to_word):
            self.assert_refused_in_order(call, (("heap", RING), ("word", 0)), {"word": NOT_NUMBERS + (3,)})
            self.assert_exact(call(word=1, heap=LOOSE), call(LOOSE, 1))
        self.assert_refused_in_order(like_leaves, (("heap", LOOSE), ("leaf", 0)), {"leaf": NOT_NUMBERS + (5,)})
        self.assert_not_usable("leaf", like_leaves, (1, ()), 0)
        self.assert_exact(like_leaves(leaf=4, heap=LOOSE), (0, 4))
