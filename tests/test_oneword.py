from itertools import permutations
from math import factorial

from tests.books import (
    EACH, LOOSE, ODD_VALUES, ONE, PAIR, RING, SAMPLES, SINGLE, all_readings, fraction, random_books, share, small_books,
)
from tests.cases import NOT_NUMBERS, Case
from unsewn.oneword import last_share, queue_share, turn_share

BOOKS = SAMPLES + tuple(small_books(3, 6))[::2] + tuple(random_books(46, 20, 5, 8))
NOT_QUEUES = ODD_VALUES + (
    (1, 2), (1,), (0,), (0, 4, 1), (1, 2, 3, 0), (1, 2, 2), (1, 1, 2, 3), (1, 2, 3, 3), [1, 2, 3], (True, 2, 3), (1, 2, "3"),
    (1, 2, None), (1, 2, 99), (-4, 2, 3), ((1, 2, 3),), "123",
)


def leaves_by_word(book):
    return [[leaf for leaf, (first, _) in enumerate(book[1]) if first == word] for word in range(book[0])]


class TestOneWord(Case):
    def test_examples(self):
        self.assert_exact(queue_share(LOOSE, 0, (1, 2, 3)), (1, 4))

    def test_edges(self):
        self.assert_exact((last_share(SINGLE, 0, 0), turn_share(SINGLE, 0, 0, 0), queue_share(SINGLE, 0, (0,))), ((1, 1),) * 3)
        self.assert_exact((last_share(PAIR, 0, 1), last_share(PAIR, 1, 1), queue_share(PAIR, 0, (1,))), ((1, 1),) * 3)
        # At the last word the cover comes first, and the others behind it.
        self.assert_exact([last_share(ONE, 1, leaf) for leaf in range(3)], [(1, 2), (0, 1), (1, 2)])
        self.assert_exact([turn_share(ONE, 1, 1, index) for index in range(3)], [(1, 1), (0, 1), (0, 1)])
        self.assert_exact([turn_share(ONE, 1, 2, index) for index in range(3)], [(0, 1), (1, 2), (1, 2)])
        self.assert_exact((queue_share(ONE, 1, (1, 2, 0)), queue_share(ONE, 1, (0, 1, 2))), ((1, 2), (0, 1)))
        self.assert_exact((queue_share(LOOSE, 0, (0, 4)), queue_share(LOOSE, 0, (4, 0))), ((1, 1), (0, 1)))
        # A loop is never the last of its word, but where the cover begins with the word.
        self.assert_exact((last_share(LOOSE, 0, 1), last_share(LOOSE, 2, 1)), ((0, 1), (1, 2)))

    def test_against_all_readings(self):
        for book in BOOKS:
            for cover in range(len(book[1])):
                readings = all_readings(book, cover)
                for group in leaves_by_word(book):
                    orders = [tuple(leaf for leaf in reading if leaf in group) for reading in readings]
                    for leaf in group:
                        told = share(sum(order[-1] == leaf for order in orders), len(orders))
                        self.assert_exact(last_share(book, cover, leaf), told)
                        for index in range(len(group)):
                            told = share(sum(order[index] == leaf for order in orders), len(orders))
                            self.assert_exact(turn_share(book, cover, leaf, index), told)
                        self.assert_not_usable("index", turn_share, book, cover, leaf, len(group))
                    for queue in list(permutations(group))[:30]:
                        self.assert_exact(queue_share(book, cover, queue), share(orders.count(queue), len(orders)))

    def test_they_add_up(self):
        for book in random_books(47, 8, 10, 40):
            for group in leaves_by_word(book):
                for cover in (0, len(book[1]) - 1):
                    lasts = [fraction(last_share(book, cover, leaf)) for leaf in group]
                    self.assertEqual(sum(lasts), 1)
                    for leaf in group[:3]:
                        turns = [fraction(turn_share(book, cover, leaf, index)) for index in range(len(group))]
                        self.assertEqual(sum(turns), 1)
                        self.assertEqual(turns[-1], fraction(last_share(book, cover, leaf)))
                        if cover not in group:
                            self.assertTrue(len(set(turns[:-1])) <= 1)
                            queue = tuple(other for other in group if other != leaf) + (leaf,)
                            self.assertEqual(fraction(queue_share(book, cover, queue)), turns[-1] / factorial(len(group) - 1))

    def test_refusals(self):
        wrong = NOT_NUMBERS + (5,)
        good = (("book", LOOSE), ("cover", 0), ("leaf", 1), ("index", 2))
        refused = {"cover": wrong, "leaf": wrong, "index": NOT_NUMBERS + (3,)}
        self.assert_refused_in_order(turn_share, good, refused)
        self.assert_refused_in_order(last_share, good[:3], refused)
        queue = (("book", LOOSE), ("cover", 0), ("leaves", (1, 2, 3)))
        self.assert_refused_in_order(queue_share, queue, {"cover": wrong, "leaves": NOT_QUEUES})

    def test_by_name(self):
        self.assert_exact(last_share(leaf=2, cover=0, book=LOOSE), (1, 2))
        self.assert_exact(turn_share(index=0, leaf=2, cover=0, book=LOOSE), (1, 4))
        self.assert_exact(queue_share(leaves=(3, 1, 2), cover=0, book=LOOSE), (1, 4))
        self.assert_exact(queue_share(RING, 0, (2,)), (1, 1))
        self.assert_exact(last_share(EACH, 0, 1), (1, 3))
