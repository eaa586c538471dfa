import random
from fractions import Fraction

from tests.books import (
    EACH, LOOSE, ODD_VALUES, ONE, PAIR, RING, SAMPLES, SINGLE, all_readings, as_pair, comes, fraction, has_find, plain_finds, random_book,
    random_books, share, small_books, threes,
)
from tests.cases import NOT_NUMBERS, NOT_THREES, Case
from tests.test_aftermaps import TEARING
from tests.test_events import EVENTS, NOT_EVENTS
from tests.test_nexts import NOT_FINDS
from unsewn.errors import InvalidEvent, NothingToUndo
from unsewn.findcounts import count_barring
from unsewn.glueing import glued_all
from unsewn.live import LiveHeap
from unsewn.mapkinds import is_map
from unsewn.replaying import replayed

BOOKS = SAMPLES + (TEARING,) + tuple(small_books(3, 4)) + tuple(random_books(100, 30, 4, 7))
WORDS = {"find": 2, "bar": 2, "take": 2, "hold": 3, "drop": 3}


class PlainHeap:
    """A live heap that goes through all its readings."""

    def __init__(self, book, cover):
        self.book, self.cover = book, cover
        self.all = all_readings(book, cover)
        self.found, self.barred, self.held = set(), set(), set()

    def readings(self, found=None, barred=None):
        found = self.found if found is None else found
        barred = self.barred if barred is None else barred
        return [
            reading for reading in self.all
            if all(has_find(reading, find) for find in found) and not any(has_find(reading, find) for find in barred)]

    def row_of(self, leaf):
        row = [leaf]
        for told in (self.found, {(f, e) for e, f in self.found}):
            at = leaf
            while at in dict(told):
                at = dict(told)[at]
                row.append(at)
        return row

    def state(self, three):
        if any(one in self.row_of(other) for one in three for other in three if one != other):
            return "joined"
        return "sure" if all(comes(reading, three) for reading in self.readings(barred=())) else "open"

    def together(self, finds):
        behind = {}
        for e, f in finds:
            if e in behind or f in behind.values():
                return False
            behind[e] = f
        for leaf in behind:
            at = leaf
            for _ in behind:
                at = behind.get(at)
                if at == leaf:
                    return False
        return True

    def refusal(self, event):
        word, *part = event
        part = tuple(part)
        if word == "take":
            return None if part in self.found | self.barred else "absent"
        if word == "drop":
            return None if part in self.held else "absent"
        if word == "hold":
            if len(set(part)) < 3 or max(part) >= len(self.book[1]):
                return "three"
            if part in self.held:
                return "held"
            state = self.state(part)
            return None if state == "sure" else state
        if part not in plain_finds(self.book):
            return "find"
        if part in self.found | self.barred or not self.together(self.found | {part}):
            return "clash"
        if word == "bar" and len(self.barred) == 4:
            return "many"
        found, barred = (self.found | {part}, self.barred) if word == "find" else (self.found, self.barred | {part})
        return None if self.readings(found, barred) else "torn"

    def do(self, event):
        word, *part = event
        part = tuple(part)
        if word == "take":
            self.found -= {part}
            self.barred -= {part}
        elif word == "drop":
            self.held -= {part}
        else:
            {"find": self.found, "bar": self.barred, "hold": self.held}[word].add(part)


def some_event(book, rng, plain):
    """An event, often one that is not refused."""
    word = rng.choice(("find", "bar", "bar", "take", "hold", "hold", "drop"))
    many = len(book[1])
    told = {"take": plain.found | plain.barred, "drop": plain.held, "hold": plain.held}.get(word)
    if told and rng.random() < (0.2 if word == "hold" else 0.5):
        return (word,) + rng.choice(sorted(told))
    if word in ("find", "bar", "take") and rng.random() < 0.9 and plain_finds(book):
        return (word,) + rng.choice(plain_finds(book))
    return (word,) + tuple(rng.randrange(many + (rng.random() < 0.1)) for _ in range(WORDS[word]))


class LiveCase(Case):
    def assert_event(self, reason, call, event, *args):
        """The call raises for this very event."""
        with self.assertRaises(InvalidEvent) as caught:
            call(*args or (event,))
        self.assertIs(caught.exception.event, event)
        self.assert_exact(caught.exception.reason, reason, event)

    def assert_like(self, heap, plain):
        """All that the heap tells is what its readings tell."""
        readings = plain.readings()
        book, many = plain.book, len(readings)
        self.assert_exact(
            (heap.found(), heap.barred(), heap.held()),
            (tuple(sorted(plain.found)), tuple(sorted(plain.barred)), tuple(sorted(plain.held))))
        self.assert_exact(heap.count_now(), many)
        self.assert_exact(heap.states(), tuple((three, plain.state(three)) for three in sorted(plain.held)))
        self.assert_exact(heap.glued_now(), glued_all(book, tuple(sorted(plain.found))))
        for leaf in range(len(book[1])):
            self.assert_exact(heap.place_now(leaf), share(sum(reading.index(leaf) for reading in readings), many))
        best = (Fraction(1, 2), None)
        for find in sorted(plain_finds(book)):
            part = Fraction(sum(has_find(reading, find) for reading in readings), many)
            self.assert_exact(heap.next_now(find), as_pair(part))
            if 0 < part < 1 and abs(part - Fraction(1, 2)) < best[0]:
                best = (abs(part - Fraction(1, 2)), find)
        self.assert_exact(heap.look_now(), best[1])

    def assert_like_for(self, heap, plain, three):
        """What the heap tells of three leaves is what its readings tell."""
        readings = plain.readings()
        a, b, c = three
        told = share(sum(comes(reading, three) for reading in readings), len(readings))
        self.assert_exact(heap.share_now(three), told)
        if plain.cover not in (b, c):
            told = share(sum(reading.index(b) < reading.index(c) for reading in readings), len(readings))
            self.assert_exact(heap.before_now(b, c), told)
        chart = heap.map_now(three)
        state = plain.state(three)
        self.assertEqual(chart is not None, state == "sure")
        if chart is not None:
            made, rows = heap.glued_now()
            gone = tuple(at for leaf in three for at, row in enumerate(rows) if leaf in row)
            self.assert_exact(is_map(made, gone, chart), True)


class TestLive(LiveCase):
    def test_examples(self):
        heap = LiveHeap(LOOSE, 0)
        self.assert_exact(heap.do_all((("find", 1, 2), ("bar", 0, 1))), 2)
        told = heap.count_now(), heap.place_now(4), heap.next_now((4, 1)), heap.look_now()
        self.assert_exact(told, (1, (2, 1), (1, 1), None))
        self.assert_exact(heap.undo(), None)
        told = heap.count_now(), heap.place_now(4), heap.before_now(1, 3), heap.look_now()
        self.assert_exact(told, (2, (5, 2), (1, 2), (0, 1)))
        self.assert_event("find", heap.do, ("bar", 2, 3))
        self.assertTrue(replayed(LOOSE, 0, heap.log()) == heap)

    def test_at_first(self):
        for book in BOOKS:
            for cover in range(0, len(book[1]), 3):
                heap = LiveHeap(book, cover)
                self.assert_exact((heap.log(), heap.found(), heap.barred(), heap.held(), heap.states()), ((),) * 5)
                self.assert_like(heap, PlainHeap(book, cover))

    def test_event_by_event(self):
        rng = random.Random(101)
        reasons = {}
        done = {}
        for book in BOOKS:
            cover = rng.randrange(len(book[1]))
            heap, plain = LiveHeap(book, cover), PlainHeap(book, cover)
            every = list(threes(book))
            log = []
            for _ in range(24):
                event = some_event(book, rng, plain)
                reason = plain.refusal(event)
                if reason is None:
                    log.append(event)
                    self.assert_exact(heap.do(event), None)
                    plain.do(event)
                    done[event[0]] = done.get(event[0], 0) + 1
                else:
                    reasons[reason] = reasons.get(reason, 0) + 1
                    self.assert_event(reason, heap.do, event)
                self.assert_exact(heap.log(), tuple(log))
            self.assert_like(heap, plain)
            for three in rng.sample(every, min(len(every), 6)):
                self.assert_like_for(heap, plain, three)
            self.assertTrue(replayed(book, cover, tuple(log)) == heap)
        self.assertEqual(sorted(done), sorted(WORDS))
        self.assertEqual(sorted(reasons), ["absent", "clash", "find", "held", "joined", "many", "open", "three", "torn"])

    def test_finds_down_to_one_reading(self):
        rng = random.Random(102)
        for book in BOOKS[::2]:
            heap, plain = LiveHeap(book, 0), PlainHeap(book, 0)
            finds = plain_finds(book)
            rng.shuffle(finds)
            for find in finds:
                event = (rng.choice(("find", "bar")),) + find
                if plain.refusal(event) is None:
                    heap.do(event)
                    plain.do(event)
                    self.assert_exact(heap.count_now(), len(plain.readings()))
            self.assert_like(heap, plain)

    def test_both_counts_add_up(self):
        rng = random.Random(103)
        seen = 0
        for book in BOOKS[::2]:
            heap = LiveHeap(book, 0)
            for find in rng.sample(plain_finds(book), min(len(plain_finds(book)), 5)):
                counts = []
                for word in ("find", "bar"):
                    try:
                        counts.append(heap.count_behind(((word,) + find,)))
                    except InvalidEvent as refused:
                        counts.append(0 if refused.reason == "torn" else None)
                if None not in counts:
                    seen += 1
                    self.assertEqual(sum(counts), heap.count_now())
                if counts[0]:
                    heap.do(("find",) + find)
        self.assertTrue(seen > 40, seen)

    def test_held_threes_stay_sure(self):
        rng = random.Random(104)
        joined = opened = 0
        for book in (EACH,) * 6 + tuple(random_books(105, 20, 4, 8)):
            heap, plain = LiveHeap(book, 0), PlainHeap(book, 0)
            every = list(threes(book))
            for _ in range(30):
                event = some_event(book, rng, plain)
                if every and rng.random() < 0.6:
                    event = ("hold",) + rng.choice(every)
                before = dict(heap.states())
                if plain.refusal(event) is None:
                    heap.do(event)
                    plain.do(event)
                    for three, state in heap.states():
                        self.assertEqual(state, plain.state(three))
                        was = before.get(three)
                        if event[0] in ("find", "bar"):
                            joined += was == "sure" and state == "joined"
                            self.assertTrue(was == state or (was, state) in (("sure", "joined"), ("open", "joined"), ("open", "sure")))
                        if event[0] == "take":
                            opened += was == "sure" and state == "open"
                        self.assertTrue(state != "open" or was == "open" or event[0] == "take")
        self.assertTrue(joined > 5 and opened > 0, (joined, opened))

    def test_twenty_leaves(self):
        rng = random.Random(106)
        for size in (1, 4, 8):
            book = random_book(rng, size, 20)
            heap = LiveHeap(book, 5)
            finds = plain_finds(book)
            while len(heap.barred()) < 4 or len(heap.found()) < 3:
                word = "bar" if len(heap.barred()) < 4 else "find"
                try:
                    heap.do((word,) + rng.choice(finds))
                except InvalidEvent as refused:
                    self.assertIn(refused.reason, ("clash", "torn"))
            self.assert_exact(heap.count_now(), count_barring(book, heap.found(), heap.barred()))
            self.assertEqual(sum(fraction(heap.place_now(leaf)) for leaf in range(20)), 190)
            for e in range(3):
                self.assertEqual(sum(fraction(heap.next_now(find)) for find in finds if find[0] == e), 1)
            a, b, c = rng.sample(range(20), 3)
            self.assertEqual(fraction(heap.share_now((a, b, c))) + fraction(heap.share_now((a, c, b))), 1)
            look = heap.look_now()
            many = len(heap.barred())
            for word in ("find", "bar"):
                if look is not None and (word == "find" or many < 4):
                    self.assertTrue(0 < heap.count_behind(((word,) + look,)) < heap.count_now())


class TestEventsOfHeaps(LiveCase):
    def test_form(self):
        heap = LiveHeap(EACH, 0)
        for thing in NOT_EVENTS:
            self.assert_event("form", heap.do, thing)
        self.assert_exact(heap.log(), ())

    def test_each_reason_ahead_of_the_next(self):
        heap = LiveHeap(EACH, 0)
        for word in ("find", "bar"):
            for part in ((0, 0), (0, 2), (0, 99), (99, 0), (1, 0), (0, 10 ** 59)):
                self.assert_event("find", heap.do, (word,) + part)
        heap.do(("find", 0, 1))
        for word in ("find", "bar"):
            # Found already; another one behind or ahead of the same leaf.
            for part in ((0, 1), (0, 3), (5, 1)) if word == "find" else ((0, 1), (0, 3)):
                if part in plain_finds(EACH):
                    self.assert_event("clash", heap.do, (word,) + part)
        self.assert_event("absent", heap.do, ("take", 0, 3))
        for part in ((0, 0), (7, 7), (0, 2)):
            self.assert_event("absent", heap.do, ("take",) + part)
        heap.do(("take", 0, 1))
        heap.do(("bar", 0, 1))
        self.assert_event("clash", heap.do, ("find", 0, 1))
        self.assert_event("clash", heap.do, ("bar", 0, 1))
        self.assert_event("torn", heap.do, ("bar", 0, 3))
        self.assert_exact(heap.count_now(), 1)

    def test_finds_that_close_a_ring_clash(self):
        heap = LiveHeap(RING, 0)
        heap.do_all((("find", 0, 1), ("find", 1, 2)))
        self.assert_event("clash", heap.do, ("find", 2, 0))
        self.assert_event("clash", heap.do, ("bar", 2, 0))
        # It clashes, but the one reading has it all the same.
        self.assert_exact((heap.next_now((2, 0)), heap.look_now(), heap.count_now()), ((1, 1), None, 1))
        self.assert_event("torn", LiveHeap(RING, 0).do, ("bar", 2, 0))
        self.assert_exact(LiveHeap(PAIR, 1).next_now((0, 1)), (1, 1))

    def test_a_barred_find_that_would_close_the_ring(self):
        # The finds found leave one reading, that has the barred one.
        heap = LiveHeap(ONE, 0)
        heap.do(("bar", 2, 0))
        self.assert_event("torn", heap.do, ("find", 0, 1))
        self.assert_exact((heap.count_now(), heap.next_now((0, 2)), heap.next_now((2, 0))), (1, (1, 1), (0, 1)))

    def test_four_barred_and_a_fifth(self):
        book = (1, ((0, 0),) * 5)
        heap = LiveHeap(book, 0)
        self.assert_exact(heap.do_all((("bar", 0, 1), ("bar", 1, 2), ("bar", 2, 3), ("bar", 3, 4))), 4)
        self.assert_event("many", heap.do, ("bar", 4, 0))
        self.assert_event("clash", heap.do, ("bar", 0, 1))
        self.assert_event("find", heap.do, ("bar", 0, 0))
        self.assert_exact(heap.do(("find", 4, 0)), None)
        self.assert_event("clash", heap.do, ("bar", 4, 1))
        # That the heap would be torn comes behind that there are four.
        torn = LiveHeap(book, 0)
        torn.do_all((("bar", 0, 1), ("bar", 0, 2), ("bar", 0, 3), ("bar", 1, 2)))
        self.assert_event("many", torn.do, ("bar", 0, 4))
        torn.do(("take", 1, 2))
        self.assert_event("torn", torn.do, ("bar", 0, 4))
        torn.do(("bar", 1, 2))
        self.assert_event("many", torn.do, ("bar", 0, 4))

    def test_threes(self):
        heap = LiveHeap(EACH, 0)
        for part in ((0, 0, 1), (0, 1, 99), (99, 99, 99), (1, 2, 1), (0, 1, 10 ** 59)):
            self.assert_event("three", heap.do, ("hold",) + part)
            self.assert_event("absent", heap.do, ("drop",) + part)
        heap.do(("hold", 0, 1, 2))
        self.assert_event("held", heap.do, ("hold", 0, 1, 2))
        self.assert_event("absent", heap.do, ("drop", 1, 2, 0))
        heap.do(("hold", 1, 2, 0))
        self.assert_exact(heap.held(), ((0, 1, 2), (1, 2, 0)))
        self.assert_event("open", heap.do, ("hold", 0, 3, 5))
        self.assert_event("open", heap.do, ("hold", 0, 2, 1))
        heap.do(("find", 0, 1))
        # Held comes ahead of joined, and joined ahead of open.
        self.assert_event("held", heap.do, ("hold", 0, 1, 2))
        self.assert_event("joined", heap.do, ("hold", 1, 0, 2))
        self.assert_event("joined", heap.do, ("hold", 2, 0, 1))
        self.assert_exact(heap.states(), (((0, 1, 2), "joined"), ((1, 2, 0), "joined")))
        self.assert_exact(heap.map_now((0, 1, 2)), None)
        heap.do(("drop", 0, 1, 2))
        self.assert_exact(heap.held(), ((1, 2, 0),))

    def test_take_makes_it_open(self):
        heap = LiveHeap(EACH, 0)
        self.assert_event("open", heap.do, ("hold", 0, 5, 3))
        heap.do(("find", 2, 5))
        heap.do(("hold", 0, 5, 3))
        self.assert_exact(heap.states(), (((0, 5, 3), "sure"),))
        heap.do(("take", 2, 5))
        self.assert_exact(heap.states(), (((0, 5, 3), "open"),))

    def test_barred_finds_do_not_count_for_states(self):
        # With one leaf barred behind the other, only one order is left, but it does not count.
        heap = LiveHeap(ONE, 0)
        heap.do(("bar", 0, 1))
        self.assert_exact((heap.share_now((0, 2, 1)), heap.count_now(), heap.map_now((0, 2, 1))), ((1, 1), 1, None))
        self.assert_event("open", heap.do, ("hold", 0, 2, 1))


class TestMethods(LiveCase):
    def test_do_all(self):
        heap = LiveHeap(LOOSE, 0)
        heap.do(("bar", 4, 3))
        bad = ("bar", 2, 3)
        events = (("find", 1, 2), ("bar", 0, 1), bad, ("take", 1, 2))
        self.assert_event("find", heap.do_all, bad, events)
        self.assert_exact((heap.log(), heap.found(), heap.barred()), ((("bar", 4, 3),), (), ((4, 3),)))
        with self.assertRaises(InvalidEvent) as caught:
            heap.do_all(events, keep=False)
        self.assertIs(caught.exception.event, bad)
        self.assert_exact(heap.log(), (("bar", 4, 3),))
        with self.assertRaises(InvalidEvent) as caught:
            heap.do_all(events, keep=True)
        self.assertIs(caught.exception.event, bad)
        self.assert_exact(heap.log(), (("bar", 4, 3), ("find", 1, 2), ("bar", 0, 1)))
        self.assert_exact((heap.found(), heap.barred(), heap.count_now()), (((1, 2),), ((0, 1), (4, 3)), 1))
        self.assert_exact(heap.do_all((), keep=True), 0)
        self.assert_exact(heap.do_all(events=(("take", 0, 1), ("hold", 0, 1, 2))[:1], keep=True), 1)
        for thing in (None, [], ("find",), True):
            self.assert_event("form", heap.do_all, thing, (("take", 1, 2), thing))
        self.assert_exact(heap.found(), ((1, 2),))

    def test_do_all_refuses(self):
        heap = LiveHeap(LOOSE, 0)
        for wrong in (None, True, 0, "find 1 2", [], [("find", 1, 2)], {}):
            self.assert_not_usable("events", heap.do_all, wrong)
            self.assert_not_usable("events", heap.count_behind, wrong)
            self.assert_not_usable("events", lambda events: heap.do_all(events, keep=None), wrong)
        for wrong in (None, 0, 1, "", "True", (), [], (True,)):
            self.assert_not_usable("keep", lambda keep: heap.do_all((("find", 1, 2),), keep=keep), wrong)
            self.assert_not_usable("keep", lambda keep: heap.do_all((None,), keep=keep), wrong)
        with self.assertRaises(TypeError):
            heap.do_all((), True)
        self.assert_exact(heap.log(), ())

    def test_count_behind(self):
        heap = LiveHeap(LOOSE, 0)
        heap.do(("find", 1, 2))
        self.assert_exact((heap.count_behind((("bar", 0, 1),)), heap.count_behind(())), (1, 2))
        self.assert_exact(heap.count_behind(events=(("take", 1, 2),)), 4)
        bad = ("find", 1, 2)
        self.assert_event("clash", heap.count_behind, bad, (("bar", 0, 1), bad))
        self.assert_exact((heap.log(), heap.barred(), heap.count_now()), ((("find", 1, 2),), (), 2))

    def test_undo(self):
        heap = LiveHeap(EACH, 0)
        events = (("hold", 0, 1, 2), ("find", 0, 1), ("take", 0, 1), ("bar", 0, 3), ("drop", 0, 1, 2))
        heap.do_all(events)
        states = []
        for left in range(4, -1, -1):
            self.assert_exact(heap.undo(0), None)
            self.assert_exact(heap.undo(), None)
            self.assert_exact(heap.log(), events[:left])
            self.assertTrue(heap == replayed(EACH, 0, events[:left]))
            states.append((heap.found(), heap.barred(), heap.held()))
        three = ((0, 1, 2),)
        self.assert_exact(states, [((), ((0, 3),), three), ((), (), three), (((0, 1),), (), three), ((), (), three), ((), (), ())])
        heap.do_all(events)
        with self.assertRaises(NothingToUndo) as caught:
            heap.undo(6)
        self.assert_exact(vars(caught.exception), {"steps": 6})
        self.assert_exact(heap.log(), events)
        self.assert_exact(heap.undo(steps=4), None)
        self.assert_exact(heap.log(), events[:1])
        heap.do(("bar", 0, 1))
        self.assert_exact((heap.log(), heap.count_now()), ((("hold", 0, 1, 2), ("bar", 0, 1)), 1))
        heap.undo(2)
        for steps in (1, 2, 10 ** 59):
            with self.assertRaises(NothingToUndo):
                heap.undo(steps)
        for wrong in NOT_NUMBERS:
            if wrong != 10 ** 59:
                self.assert_not_usable("steps", heap.undo, wrong)

    def test_what_it_has_stays_with_the_caller(self):
        heap = LiveHeap(LOOSE, 0)
        heap.do(("find", 1, 2))
        log, found = heap.log(), heap.found()
        heap.do(("take", 1, 2))
        self.assert_exact((log, found), ((("find", 1, 2),), ((1, 2),)))

    def test_edges(self):
        heap = LiveHeap(SINGLE, 0)
        self.assert_exact((heap.count_now(), heap.place_now(0), heap.look_now()), (1, (0, 1), None))
        self.assert_exact(heap.glued_now(), (SINGLE, ((0,),)))
        self.assert_not_usable("find", heap.next_now, (0, 0))
        heap = LiveHeap(PAIR, 1)
        self.assert_exact([heap.place_now(leaf) for leaf in (0, 1)], [(1, 1), (0, 1)])
        heap.do(("find", 0, 1))
        self.assert_exact((heap.glued_now(), heap.place_now(0)), ((SINGLE, ((0, 1),)), (1, 1)))
        # All leaves in one row: its order round is sure, though it is joined.
        heap = LiveHeap(RING, 0)
        heap.do_all((("find", 1, 2), ("find", 2, 0)))
        self.assert_exact([heap.share_now((0, 1, 2)), heap.share_now((0, 2, 1)), heap.before_now(1, 2)], [(1, 1), (0, 1), (1, 1)])
        self.assert_exact([heap.place_now(leaf) for leaf in range(3)], [(0, 1), (1, 1), (2, 1)])

    def test_equal(self):
        one, other = LiveHeap(LOOSE, 0), LiveHeap(LOOSE, 0)
        self.assertTrue(one == other)
        one.do_all((("find", 1, 2), ("bar", 0, 1)))
        self.assertTrue(one != other)
        other.do_all((("bar", 0, 1), ("find", 1, 2), ("take", 0, 1), ("bar", 0, 1)))
        self.assertTrue(one == other)
        self.assertFalse(one != other)
        self.assertTrue(one.log() != other.log())
        other.undo()
        self.assertFalse(one == other)
        for told in (LiveHeap(LOOSE, 1), LiveHeap(EACH, 0), LOOSE, None, (LOOSE, 0), one.log(), 0):
            self.assertFalse(LiveHeap(LOOSE, 0) == told)
            self.assertTrue(LiveHeap(LOOSE, 0) != told)
        held = LiveHeap(EACH, 0)
        held.do(("hold", 0, 1, 2))
        self.assertFalse(held == LiveHeap(EACH, 0))

    def test_refusals(self):
        for book in ODD_VALUES + ((2, ((0, 1),)), (2, ((0, 0), (1, 1))), (1, ()), list(RING), (3, list(RING[1])), (10 ** 59, ())):
            for cover in (0, None):
                self.assert_not_usable("book", LiveHeap, book, cover)
                for log in ((), None):
                    self.assert_not_usable("book", replayed, book, cover, log)
        heap = LiveHeap(LOOSE, 0)
        for wrong in NOT_NUMBERS + (5,):
            self.assert_not_usable("cover", LiveHeap, LOOSE, wrong)
            self.assert_not_usable("cover", replayed, LOOSE, wrong, None)
            self.assert_not_usable("leaf", heap.place_now, wrong)
            self.assert_not_usable("one", heap.before_now, wrong, wrong)
            self.assert_not_usable("other", heap.before_now, 1, wrong)
        self.assert_not_usable("one", heap.before_now, 0, 1)
        self.assert_not_usable("other", heap.before_now, 1, 0)
        self.assert_not_usable("other", heap.before_now, 1, 1)
        for wrong in NOT_THREES:
            self.assert_not_usable("three", heap.share_now, wrong)
            self.assert_not_usable("three", heap.map_now, wrong)
        for wrong in tuple(find for find in NOT_FINDS if find != (0, 1)) + ((0, 4),):
            self.assert_not_usable("find", heap.next_now, wrong)

    def test_by_name(self):
        heap = LiveHeap(cover=0, book=EACH)
        self.assert_exact(heap.do(event=("hold", 0, 1, 2)), None)
        self.assert_exact((heap.share_now(three=(0, 1, 2)), heap.before_now(other=2, one=1)), ((1, 1), (1, 1)))
        self.assert_exact((heap.place_now(leaf=0), heap.next_now(find=(0, 1))), ((0, 1), (2, 3)))
        self.assertTrue(heap.map_now(three=(0, 1, 2)) is not None)

    def test_each_method_stands_in_the_class(self):
        for name in (
            "__init__", "do", "do_all", "undo", "count_behind", "log", "found", "barred", "held", "states", "glued_now", "map_now",
            "count_now", "share_now", "before_now", "place_now", "next_now", "look_now", "__eq__",
        ):
            self.assertIn(name, vars(LiveHeap))


class TestReplayed(LiveCase):
    def test_the_first_that_is_refused(self):
        bad = ("take", 0, 1)
        for log in ((bad,), (("find", 1, 2), bad, ("find", 0, 0)), (("find", 0, 1), ("take", 0, 1), bad)):
            self.assert_event("absent", replayed, bad, LOOSE, 0, log)

    def test_a_log_of_any_length(self):
        log = (("bar", 0, 1), ("find", 1, 2), ("take", 0, 1)) + (("take", 1, 2), ("find", 1, 2)) * 20
        heap = replayed(LOOSE, 0, log)
        self.assert_exact((heap.log(), heap.found(), heap.count_now()), (log, ((1, 2),), 2))
        self.assertTrue(heap == replayed(log=(("find", 1, 2),), cover=0, book=LOOSE))
        self.assertTrue(replayed(LOOSE, 2, ()) == LiveHeap(LOOSE, 2))

    def test_refusals(self):
        for wrong in (None, True, 0, "find 1 2", [], [("find", 1, 2)], (None,), (("find", 1, 2), None), ("find", 1, 2), (("find", 1, True),)):
            self.assert_not_usable("log", replayed, LOOSE, 0, wrong)
        # That it is no log comes ahead of an event that is refused.
        self.assert_not_usable("log", replayed, LOOSE, 0, (("take", 0, 1), None))
        for event in EVENTS:
            with self.assertRaises(InvalidEvent):
                replayed(SINGLE, 0, (event,))
