import random
from itertools import combinations, islice, permutations

from tests.books import (
    EACH, LOOSE, ODD_VALUES, ONE, PAIR, RING, SAMPLES, SINGLE, all_readings, has_find, is_book_plainly, plain_finds,
    random_books, small_books,
)
from tests.cases import Case
from tests.test_nexts import NOT_FINDS
from unsewn.counts import reading_count
from unsewn.errors import Torn
from unsewn.findkinds import are_finds
from unsewn.glueing import count_with, glued, glued_all

TEARING = (2, ((0, 0), (0, 1), (1, 0)))
NOT_SETS_OF_FINDS = tuple(thing for thing in ODD_VALUES if thing != ()) + (
    (0, 2), [(0, 2)], ([0, 2],), ((0, 2), (0, 2)), ((0, 3), (0, 2)), ((0, 2), (0, 3)), ((0, 2), (4, 2)), ((0, True),), ((0, 4),),
    ((0, 2), None), ((0, 2), (2, 0)), ((4, 3), (0, 2)), ((0, 99),), ((False, 2),),
)
BOOKS = SAMPLES + (TEARING,) + tuple(small_books(3, 4)) + tuple(random_books(93, 16, 4, 7))


def glue_plainly(book, rows, find):
    """The book glued by a find, and its rows, by the definition word for word; None if it is torn."""
    size, leaves = book
    e, f = find
    made = list(leaves)
    told = list(rows)
    made[e] = (leaves[e][0], leaves[f][1])
    told[e] = rows[e] + rows[f]
    del made[f]
    del told[f]
    word = leaves[f][0]
    if not any(word in leaf for leaf in made):
        made = [tuple(w - (w > word) for w in leaf) for leaf in made]
        size -= 1
    heap = (size, tuple(made))
    return (heap, tuple(told)) if is_book_plainly(heap) else None


def glue_one_by_one(book, finds):
    """All finds glued in the sequence told, each leaf looked up by the row into which it has gone."""
    made = (book, tuple((leaf,) for leaf in range(len(book[1]))))
    for e, f in finds:
        if made is not None:
            heap, rows = made
            at = [index for leaf in (e, f) for index, row in enumerate(rows) if leaf in row]
            made = glue_plainly(heap, rows, tuple(at))
    return made


def some_sets(book, rng, most):
    """Some sets of finds of the book."""
    finds = sorted(plain_finds(book))
    told = [()]
    for many in range(1, len(book[1])):
        sets = [finds_told for finds_told in islice(combinations(finds, many), 1000)]
        told.extend(rng.sample(sets, min(len(sets), most)))
    return [thing for thing in told if are_finds(book, thing)]


class TestGlueing(Case):
    def assert_torn(self, finds, call, *args):
        with self.assertRaises(Torn) as caught:
            call(*args)
        self.assert_exact(vars(caught.exception), {"finds": finds})

    def test_examples(self):
        self.assert_exact(glued(RING, (0, 1)), ((2, ((0, 1), (1, 0))), ((0, 1), (2,))))
        self.assert_torn(((0, 2), (4, 3)), glued_all, LOOSE, ((0, 2), (4, 3)))
        self.assert_exact(count_with(LOOSE, ((1, 2),)), 2)

    def test_edges(self):
        # The word between, of fan one, is left out, be it before or behind the others.
        self.assert_exact(glued(PAIR, (0, 1)), (SINGLE, ((0, 1),)))
        self.assert_exact(glued(PAIR, (1, 0)), (SINGLE, ((1, 0),)))
        self.assert_exact(glued(RING, (2, 0)), ((2, ((0, 1), (1, 0))), ((1,), (2, 0))))
        self.assert_exact(glued(ONE, (2, 0)), ((1, ((0, 0), (0, 0))), ((1,), (2, 0))))
        self.assert_torn(((2, 1),), glued, TEARING, (2, 1))
        self.assert_exact(glued(TEARING, (1, 2)), ((1, ((0, 0), (0, 0))), ((0,), (1, 2))))
        self.assert_exact(glued(TEARING, (0, 1)), ((2, ((0, 1), (1, 0))), ((0, 1), (2,))))
        # All leaves in one row.
        self.assert_exact(glued_all(LOOSE, ((0, 1), (1, 2), (2, 4), (4, 3))), (SINGLE, ((0, 1, 2, 4, 3),)))
        for book in SAMPLES:
            self.assert_exact(glued_all(book, ()), (book, tuple((leaf,) for leaf in range(len(book[1])))))
            self.assertEqual(count_with(book, ()), reading_count(book))

    def test_single_finds_by_definition(self):
        torn = 0
        for book in BOOKS:
            rows = tuple((leaf,) for leaf in range(len(book[1])))
            for find in plain_finds(book):
                told = glue_plainly(book, rows, find)
                if told is None:
                    torn += 1
                    self.assert_torn((find,), glued, book, find)
                    self.assert_torn((find,), glued_all, book, (find,))
                else:
                    self.assert_exact(glued(book, find), told)
                    self.assert_exact(glued_all(book, (find,)), told)
        self.assertTrue(torn > 20, torn)

    def test_in_any_sequence(self):
        rng = random.Random(94)
        torn = 0
        for book in BOOKS:
            for finds in some_sets(book, rng, 3):
                orders = list(permutations(finds)) if len(finds) < 5 else [finds]
                for order in rng.sample(orders, min(len(orders), 4)):
                    told = glue_one_by_one(book, order)
                    if told is None:
                        torn += 1
                        self.assert_torn(finds, glued_all, book, finds)
                    else:
                        self.assert_exact(glued_all(book, finds), told)
        self.assertTrue(torn > 20, torn)

    def test_readings_with_finds(self):
        rng = random.Random(95)
        for book in BOOKS:
            for finds in some_sets(book, rng, 2):
                told = [reading for reading in all_readings(book, 0) if all(has_find(reading, find) for find in finds)]
                self.assert_exact(count_with(book, finds), len(told))
                if told:
                    made, rows = glued_all(book, finds)
                    for first, row in enumerate(rows):
                        spelled = [tuple(leaf for part in reading for leaf in rows[part]) for reading in all_readings(made, first)]
                        readings = all_readings(book, row[0])
                        self.assertEqual(sorted(spelled), [
                            reading for reading in readings if all(has_find(reading, find) for find in finds)])
                else:
                    self.assert_torn(finds, glued_all, book, finds)

    def test_single_finds_add_up(self):
        for book in BOOKS + tuple(random_books(96, 10, 10, 40)):
            finds = plain_finds(book)
            for e in range(len(book[1])):
                if len(book[1]) > 1:
                    self.assertEqual(sum(count_with(book, (find,)) for find in finds if find[0] == e), reading_count(book))

    def test_the_very_finds(self):
        finds = ((0, 2), (4, 3))
        with self.assertRaises(Torn) as caught:
            glued_all(LOOSE, finds)
        self.assertIs(caught.exception.finds, finds)

    def test_refusals(self):
        for wrong in NOT_FINDS + ODD_VALUES:
            if wrong != (0, 1):
                self.assert_not_usable("find", glued, LOOSE, wrong)
        self.assert_not_usable("find", glued, RING, (1, 0))
        self.assert_not_usable("find", glued, SINGLE, (0, 0))
        for call in (glued_all, count_with):
            self.assert_refused_in_order(call, (("book", LOOSE), ("finds", ((0, 2),))), {"finds": NOT_SETS_OF_FINDS})
            self.assert_not_usable("finds", call, RING, ((0, 1), (1, 2), (2, 0)))
            self.assert_not_usable("finds", call, PAIR, ((0, 1), (1, 0)))
        self.assert_exact(glued(find=(0, 1), book=PAIR), (SINGLE, ((0, 1),)))
        self.assert_exact((count_with(finds=(), book=EACH), glued_all(finds=(), book=SINGLE)), (3, (SINGLE, ((0,),))))
