import random
from math import factorial

from tests.books import (
    EACH, LOOSE, ODD_VALUES, ONE, PAIR, RING, SAMPLES, SINGLE, all_readings, random_book, random_books, small_books,
)
from tests.cases import NOT_NUMBERS, Case
from tests.test_readings import NOT_READINGS
from unsewn.counts import reading_count
from unsewn.errors import NotUsable
from unsewn.textnumbers import number_of_text, text_at
from unsewn.texts import is_text, readings_per_text, text_count, text_of, texts_of

LIKE = (2, ((0, 1), (1, 0), (0, 1), (1, 0), (0, 0), (0, 0), (1, 1)))
BOOKS = SAMPLES + (LIKE,) + tuple(small_books(3, 5)) + tuple(random_books(77, 25, 4, 7))
NOT_LOOSE_TEXTS = ODD_VALUES + (
    (0, 0, 1, 0), (0, 0, 1, 0, 1, 0), (0, 0, 1, 1, 0), (1, 0, 0, 1, 0), (0, 0, 0, 0, 1), (0, 1, 0, 1, 1), [0, 0, 1, 0, 1], (False, 0, 1, 0, 1),
    (0, 0, True, 0, 1), (0, 0, 1, 0, 2), (0, 0, 1, 0, "1"), (0, 0, 1, 0, None), ((0, 0, 1, 0, 1),), (0, 0, 1, 0, -1), "00101", (1, 0, 1, 0, 0),
)


def plain_text(book, reading):
    return tuple(book[1][leaf][0] for leaf in reading[1:] + reading[:1])


class TestTexts(Case):
    def test_examples(self):
        self.assert_exact((text_of(LOOSE, (0, 1, 2, 4, 3)), text_of(ONE, (1, 0, 2))), ((0, 0, 1, 0, 1), (0, 0, 0)))
        self.assert_exact((text_count(LOOSE, 0), readings_per_text(LOOSE, 0)), (2, 2))
        self.assert_exact(text_at(LOOSE, 0, 1), (0, 1, 0, 0, 1))

    def test_edges(self):
        self.assert_exact((text_of(SINGLE, (0,)), text_count(SINGLE, 0), readings_per_text(SINGLE, 0)), ((0,), 1, 1))
        self.assert_exact((list(texts_of(SINGLE, 0)), text_at(SINGLE, 0, 0), number_of_text(SINGLE, 0, (0,))), ([(0,)], (0,), 0))
        self.assert_exact((text_of(PAIR, (1, 0)), text_of(RING, (1, 2, 0))), ((0, 1), (2, 0, 1)))
        # Leaves that are like the cover are like each other alone.
        self.assert_exact((readings_per_text(ONE, 0), readings_per_text(LOOSE, 2), readings_per_text(LOOSE, 1)), (2, 2, 4))

    def test_against_all_readings(self):
        for book in BOOKS:
            for cover in range(len(book[1])):
                readings = all_readings(book, cover)
                told = [plain_text(book, reading) for reading in readings]
                texts = sorted(set(told))
                self.assert_exact(text_count(book, cover), len(texts))
                self.assertEqual({told.count(text) for text in texts}, {readings_per_text(book, cover)})
                self.assert_exact(list(texts_of(book, cover)), texts)
                for reading, text in list(zip(readings, told))[:5]:
                    self.assert_exact(text_of(book, reading), text)
                for index, text in list(enumerate(texts))[:20]:
                    self.assert_exact(text_at(book, cover, index), text)
                    self.assert_exact(number_of_text(book, cover, text), index)
                    self.assert_exact(is_text(book, cover, text), True)
                self.assert_not_usable("index", text_at, book, cover, len(texts))

    def test_which_are_texts(self):
        rng = random.Random(78)
        found = {True: 0, False: 0}
        for book in BOOKS:
            for cover in range(min(len(book[1]), 3)):
                texts = {plain_text(book, reading) for reading in all_readings(book, cover)}
                for text in sorted(texts)[:4]:
                    for _ in range(6):
                        changed = list(text)
                        rng.shuffle(changed)
                        told = tuple(changed) in texts
                        found[told] += 1
                        self.assert_exact(is_text(book, cover, tuple(changed)), told)
        self.assertTrue(min(found.values()) > 50, found)
        for thing in NOT_LOOSE_TEXTS:
            self.assert_exact(is_text(LOOSE, 0, thing), False, thing)
            self.assert_not_usable("text", number_of_text, LOOSE, 0, thing)
        self.assert_exact(is_text(SINGLE, 0, ()), False)
        self.assert_exact(is_text(SINGLE, 0, (False,)), False)

    def test_of_however_many_readings(self):
        # One text of very many readings, and not many texts.
        book = (1, ((0, 0),) * 40)
        self.assert_exact((text_count(book, 7), readings_per_text(book, 7)), (1, factorial(39)))
        self.assert_exact(list(texts_of(book, 7)), [(0,) * 40])
        book = (2, ((0, 0),) * 19 + ((0, 1), (1, 0)) + ((0, 0),) * 19)
        self.assert_exact(text_count(book, 0), 38)
        texts = list(texts_of(book, 0))
        self.assertEqual(texts, sorted(set(texts)))
        self.assertEqual(len(texts), 38)

    def test_larger_books(self):
        found = 0
        for book in random_books(79, 60, 10, 40):
            many = text_count(book, 1 % len(book[1]))
            self.assertEqual(many * readings_per_text(book, 1 % len(book[1])), reading_count(book))
            if many <= 400:
                found += 1
                texts = list(texts_of(book, 1 % len(book[1])))
                self.assertEqual((len(texts), texts), (many, sorted(set(texts))))
                self.assertTrue(all(is_text(book, 1 % len(book[1]), text) for text in texts))
        self.assertTrue(found > 10, found)

    def test_twenty_leaves(self):
        rng = random.Random(80)
        for _ in range(12):
            book = random_book(rng, rng.randrange(1, 11), 20)
            many = text_count(book, 3)
            ahead = ()
            for index in sorted({0, many // 3, many // 2, many - 1}):
                text = text_at(book, 3, index)
                self.assertTrue(is_text(book, 3, text) and ahead < text)
                self.assert_exact(number_of_text(book, 3, text), index)
                ahead = text

    def test_refusals(self):
        self.assert_refused_in_order(text_of, (("book", EACH), ("reading", (0, 1, 2, 5, 4, 3))), {"reading": NOT_READINGS})
        wrong = {"cover": NOT_NUMBERS + (5,), "index": NOT_NUMBERS + (2,), "text": NOT_LOOSE_TEXTS}
        book, cover = ("book", LOOSE), ("cover", 0)
        for call in (readings_per_text, text_count, lambda *args: list(texts_of(*args))):
            self.assert_refused_in_order(call, (book, cover), wrong)
        self.assert_refused_in_order(is_text, (book, cover, ("thing", (0, 0, 1, 0, 1))), {"cover": wrong["cover"]})
        self.assert_refused_in_order(text_at, (book, cover, ("index", 0)), wrong)
        self.assert_refused_in_order(number_of_text, (book, cover, ("text", (0, 0, 1, 0, 1))), wrong)

    def test_errors_come_when_the_first_one_is_asked_for(self):
        made = texts_of(LOOSE, None)
        with self.assertRaises(NotUsable):
            next(made)

    def test_by_name(self):
        self.assert_exact(text_of(reading=(0,), book=SINGLE), (0,))
        self.assert_exact((text_count(cover=0, book=LOOSE), readings_per_text(cover=0, book=LOOSE)), (2, 2))
        self.assert_exact(list(texts_of(cover=0, book=LOOSE)), [(0, 0, 1, 0, 1), (0, 1, 0, 0, 1)])
        self.assert_exact(is_text(thing=(0, 0, 1, 0, 1), cover=0, book=LOOSE), True)
        self.assert_exact(text_at(index=0, cover=0, book=LOOSE), (0, 0, 1, 0, 1))
        self.assert_exact(number_of_text(text=(0, 1, 0, 0, 1), cover=0, book=LOOSE), 1)
