import random
from itertools import product

from tests.books import (
    EACH, LOOSE, ODD_VALUES, ONE, PAIR, RING, SAMPLES, SINGLE, all_readings, random_book, random_books, small_books,
)
from tests.cases import Case
from tests.test_readings import NOT_READINGS
from unsewn.counts import reading_count
from unsewn.errors import InvalidPaper
from unsewn.exchanges import exchanged, is_step, steps_between
from unsewn.numbering import reading_at
from unsewn.readings import is_reading
from unsewn.stepchecker import lets_steps

ROW = (0, 1, 2, 4, 3)
NOT_STEPS = ODD_VALUES + (
    (2, 3, 4), (2, 3, 4, 5, 5), [2, 3, 4, 5], (2, 3, 4, True), (True, 3, 4, 5), (0, 3, 4, 5), (2, 2, 4, 5), (2, 3, 2, 5), (2, 3, 4, 4),
    (2, 3, 4, 6), (2, 5, 4, 3), (-1, 3, 4, 5), (2, 3, 4, 10 ** 59), (2, 3, 4, "5"), (2, 3, 4, None), ((2, 3, 4, 5),), (1, 3, 4, 5, 0),
)


def plain_steps(book, reading):
    """All steps of the reading, by the definition."""
    many = len(reading)
    row = [book[1][leaf] for leaf in reading]
    return [
        (i, j, k, end) for i, j, k, end in product(range(1, many + 1), repeat=4)
        if i < j <= k < end and row[i][0] == row[k][0] and row[j - 1][1] == row[end - 1][1]]


class TestSteps(Case):
    def test_examples(self):
        self.assert_exact(exchanged(LOOSE, ROW, (2, 3, 4, 5)), (0, 1, 3, 4, 2))

    def test_which_are_steps(self):
        for book in SAMPLES + tuple(small_books(3, 4)) + tuple(random_books(99, 6, 4, 6)):
            for reading in all_readings(book, 0)[:4]:
                told = set(plain_steps(book, reading))
                for thing in product(range(-1, len(reading) + 2), repeat=4):
                    self.assert_exact(is_step(book, reading, thing), thing in told)
        for thing in NOT_STEPS:
            self.assert_exact(is_step(LOOSE, ROW, thing), False, thing)
        self.assert_exact((is_step(SINGLE, (0,), (0, 0, 0, 0)), is_step(RING, (0, 1, 2), (1, 2, 2, 3))), (False, False))
        # The stretches may stand next to each other.
        self.assert_exact((is_step(ONE, (0, 1, 2), (1, 2, 2, 3)), exchanged(ONE, (0, 1, 2), (1, 2, 2, 3))), (True, (0, 2, 1)))

    def test_exchanged(self):
        seen = 0
        for book in SAMPLES + tuple(small_books(3, 5)) + tuple(random_books(100, 10, 4, 7)):
            for reading in all_readings(book, 0)[:6]:
                for step in plain_steps(book, reading):
                    seen += 1
                    i, j, k, end = step
                    made = exchanged(book, reading, step)
                    told = list(reading[:i]) + list(reading[k:end]) + list(reading[j:k]) + list(reading[i:j]) + list(reading[end:])
                    self.assert_exact(made, tuple(told))
                    self.assertTrue(is_reading(book, made) and made[0] == reading[0])
                    back = (i, i + end - k, end - j + i, end)
                    self.assert_exact((is_step(book, made, back), exchanged(book, made, back)), (True, reading))
        self.assertTrue(seen > 300, seen)

    def test_refusals(self):
        wrong = {"reading": NOT_READINGS + ((0, 1, 2, 3, 4),), "step": NOT_STEPS + ((1, 2, 3, 4), (2, 3, 3, 4))}
        good = (("book", LOOSE), ("reading", ROW), ("step", (2, 3, 4, 5)))
        self.assert_refused_in_order(exchanged, good, wrong)
        for reading in wrong["reading"]:
            self.assert_not_usable("reading", is_step, LOOSE, reading, (2, 3, 4, 5))
            self.assert_not_usable("reading", is_step, LOOSE, reading, None)
        self.assert_exact(is_step(thing=(2, 3, 4, 5), reading=ROW, book=LOOSE), True)
        self.assert_exact(exchanged(step=(2, 3, 4, 5), reading=ROW, book=LOOSE), (0, 1, 3, 4, 2))


class TestStepsBetween(Case):
    def assert_led(self, book, one, other):
        steps = steps_between(book, one, other)
        self.assertTrue(steps.__class__ is tuple and all(step.__class__ is tuple for step in steps))
        self.assertTrue(len(steps) <= len(book[1]) - book[0], (book, one, other))
        reached = one
        for step in steps:
            self.assertIn(step, plain_steps(book, reached))
            i, j, k, end = step
            reached = reached[:i] + reached[k:end] + reached[j:k] + reached[i:j] + reached[end:]
        self.assertEqual(reached, other)
        self.assert_exact(lets_steps(book, one, other, steps), len(steps))
        return steps

    def test_edges(self):
        for book in SAMPLES:
            for reading in all_readings(book, 0):
                self.assert_exact(steps_between(book, reading, reading), ())
        self.assert_led(LOOSE, ROW, (0, 1, 3, 4, 2))
        self.assert_led(ONE, (1, 0, 2), (1, 2, 0))

    def test_all_pairs_of_readings(self):
        most = 0
        for book in SAMPLES + tuple(small_books(3, 6)) + tuple(random_books(101, 12, 5, 8)):
            for first in {0, len(book[1]) - 1}:
                readings = all_readings(book, first)[:14]
                for one, other in product(readings, repeat=2):
                    most = max(most, len(self.assert_led(book, one, other)))
        self.assertTrue(most >= 3, most)

    def test_large_books(self):
        rng = random.Random(102)
        for _ in range(30):
            size = rng.randrange(1, 11)
            book = random_book(rng, size, rng.randrange(size, 21))
            many = reading_count(book)
            first = rng.randrange(len(book[1]))
            one, other = [reading_at(book, first, rng.randrange(many)) for _ in range(2)]
            self.assert_led(book, one, other)

    def test_refusals(self):
        wrong = {"one": NOT_READINGS + ((0, 1, 2, 3, 4),), "other": NOT_READINGS + ((0, 1, 2, 3, 4), (1, 2, 4, 3, 0))}
        good = (("book", LOOSE), ("one", ROW), ("other", (0, 1, 3, 4, 2)))
        self.assert_refused_in_order(steps_between, good, wrong)
        self.assert_not_usable("other", steps_between, RING, (0, 1, 2), (1, 2, 0))
        self.assert_exact(steps_between(other=(1, 0), one=(1, 0), book=PAIR), ())


class TestStepChecker(Case):
    def assert_invalid(self, word, at, book, one, other, thing):
        with self.assertRaises(InvalidPaper) as caught:
            lets_steps(book, one, other, thing)
        self.assert_exact((caught.exception.word, caught.exception.at), (word, at), thing)

    def test_examples(self):
        self.assert_exact(lets_steps(LOOSE, ROW, (0, 1, 3, 4, 2), ((2, 3, 4, 5),)), 1)

    def test_any_number_is_allowed(self):
        there, back = (2, 3, 4, 5), (2, 3, 4, 5)
        self.assert_exact(lets_steps(LOOSE, ROW, ROW, ()), 0)
        self.assert_exact(lets_steps(LOOSE, ROW, ROW, (there, back) * 3), 6)
        self.assert_exact(lets_steps(LOOSE, ROW, (0, 1, 3, 4, 2), (there, back) * 3 + (there,)), 7)

    def test_kind(self):
        step = (2, 3, 4, 5)
        for thing in ODD_VALUES + (
            step, [step], (list(step),), (step, None), (step, step[:3]), (step, step + (0,)), (step, (2, 3, 4, True)),
            (step, (2, 3, 4, -1)), (step, (2, 3, 4, "5")), ((),), (None,), ((0, 0, 0, 0), (step,)), ("abcd",),
        ):
            if thing != ():
                self.assert_invalid("kind", -1, LOOSE, ROW, (0, 1, 3, 4, 2), thing)

    def test_step_and_end(self):
        other = (0, 1, 3, 4, 2)
        step = (2, 3, 4, 5)
        self.assert_invalid("end", -1, LOOSE, ROW, other, ())
        self.assert_invalid("end", -1, LOOSE, ROW, ROW, (step,))
        self.assert_invalid("end", -1, LOOSE, ROW, other, (step, step))
        for wrong in ((0, 0, 0, 0), (2, 3, 4, 6), (1, 2, 3, 4), (10 ** 59, 3, 4, 5), (2, 3, 4, 10 ** 59), (2, 3, 3, 4)):
            self.assert_invalid("step", 0, LOOSE, ROW, other, (wrong,))
            self.assert_invalid("step", 1, LOOSE, ROW, other, (step, wrong))
            self.assert_invalid("step", 2, LOOSE, ROW, other, (step, step, wrong, wrong, step))
        # A step of the first reading that is none of the one reached by then: in (0, 3, 5, 4, 1, 2) all stands otherwise.
        book, one = EACH, (0, 1, 2, 5, 4, 3)
        for first in plain_steps(book, one):
            reached = exchanged(book, one, first)
            for second in product(range(1, 7), repeat=4):
                if second in plain_steps(book, reached):
                    self.assert_exact(lets_steps(book, one, exchanged(book, reached, second), (first, second)), 2)
                else:
                    self.assert_invalid("step", 1, book, one, one, (first, second))

    def test_refusals(self):
        wrong = {"one": NOT_READINGS + ((0, 1, 2, 3, 4),), "other": NOT_READINGS + ((0, 1, 2, 3, 4), (1, 2, 4, 3, 0))}
        good = (("book", LOOSE), ("one", ROW), ("other", ROW), ("thing", None))
        self.assert_refused_in_order(lets_steps, good, wrong)
        self.assert_exact(lets_steps(thing=(), other=ROW, one=ROW, book=LOOSE), 0)
