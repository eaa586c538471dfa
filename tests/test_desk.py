import random

from tests.books import EACH, LOOSE, ODD_VALUES, ONE, PAIR, RING, SAMPLES, SINGLE, plain_finds, random_books
from tests.cases import NOT_NUMBERS, Case
from tests.test_events import NO_EVENT_LINES, NOT_EVENTS
from tests.test_live import PlainHeap, some_event
from unsewn.desk import Desk
from unsewn.errors import InvalidEvent, InvalidRow, NothingToUndo, NotUsable, UnsewnError
from unsewn.eventtexts import event_line
from unsewn.live import LiveHeap

NO_LINES = tuple(line for line in NO_EVENT_LINES if line not in ("undo 1", "count", "look")) + (
    "undo", "undo ", "undo 1 2", "undo 01", "undo -1", "undo x", "count ", " count", "count 0", "look ", "look 0", "share 0 1", "share 0 1 2 3",
    "share 0 1 02", "before 1", "before 1 2 3", "before 1  2", "place", "place 1 2", "place 00", "next 0", "next 0 1 2", "next 0,1", "state 0 1",
    "state 0 1 2 3", "state 0 1 x", "Count", "COUNT", "held", "log", "share", "do find 0 1", "undo 1.0", "place 1_0", "count\n",
)


def text(quotient):
    return f"{quotient[0]}/{quotient[1]}"


class TestDesk(Case):
    def assert_no_row(self, call, row, *args):
        with self.assertRaises(InvalidRow) as caught:
            call(*args or (row,))
        self.assertIs(caught.exception.row, row)

    def test_examples(self):
        desk = Desk(EACH, 0)
        told = desk.ask_all(("hold 0 1 2", "find 3 5", "state 0 1 2", "next 5 4", "look"))
        self.assert_exact(told, ("3", "2", "sure", "1/2", "0 1"))
        self.assert_exact((desk.ask("undo 1"), desk.ask("before 1 2"), list(desk)[-1]), ("3", "1/1", "1/1"))
        self.assert_no_row(desk.ask, "count ")

    def test_each_line(self):
        desk = Desk(LOOSE, 0)
        told = (
            ("count", "4"), ("look", "0 1"), ("share 0 1 2", "3/4"), ("before 2 1", "1/4"), ("place 0", "0/1"), ("place 2", "11/4"),
            ("next 1 2", "1/2"), ("find 1 2", "2"), ("next 1 2", "1/1"), ("next 1 3", "0/1"), ("bar 0 1", "1"), ("look", "none"),
            ("undo 0", "1"), ("take 0 1", "2"), ("undo 1", "1"), ("undo 2", "4"), ("state 0 1 2", "absent"), ("state 9 9 9", "absent"),
            (f"state 0 1 {10 ** 59}", "absent"),
        )
        for line, answer in told:
            self.assert_exact(desk.ask(line), answer)
        self.assert_exact(list(desk), [answer for _, answer in told])
        self.assert_exact(desk.log(), ())

    def test_states(self):
        desk = Desk(EACH, 0)
        told = desk.ask_all((
            "hold 0 1 2", "state 0 1 2", "state 1 2 0", "find 2 5", "hold 0 5 3", "state 0 5 3", "take 2 5", "state 0 5 3", "find 0 1",
            "state 0 1 2", "drop 0 1 2", "state 0 1 2"))
        self.assert_exact(told[1:3] + told[5:6] + told[7:8] + told[9:10] + told[11:], ("sure", "absent", "sure", "open", "joined", "absent"))

    def test_it_answers_what_the_live_heap_tells(self):
        rng = random.Random(107)
        for book in SAMPLES + tuple(random_books(108, 15, 4, 8)):
            cover = rng.randrange(len(book[1]))
            desk, heap, plain = Desk(book, cover), LiveHeap(book, cover), PlainHeap(book, cover)
            for _ in range(12):
                event = some_event(book, rng, plain)
                if plain.refusal(event) is None:
                    plain.do(event)
                    heap.do(event)
                    self.assert_exact(desk.ask(event_line(event)), str(heap.count_now()))
                else:
                    with self.assertRaises(InvalidEvent) as caught:
                        desk.ask(event_line(event))
                    self.assert_exact(vars(caught.exception), {"event": event, "reason": plain.refusal(event)})
                self.assert_exact((desk.log(), desk.ask("count")), (heap.log(), str(heap.count_now())))
            for leaf in range(len(book[1])):
                self.assert_exact(desk.ask(f"place {leaf}"), text(heap.place_now(leaf)))
            for e, f in plain_finds(book):
                self.assert_exact(desk.ask(f"next {e} {f}"), text(heap.next_now((e, f))))
            look = heap.look_now()
            self.assert_exact(desk.ask("look"), "none" if look is None else f"{look[0]} {look[1]}")
            if len(book[1]) > 2:
                a, b, c = (cover,) + tuple(rng.sample([leaf for leaf in range(len(book[1])) if leaf != cover], 2))
                self.assert_exact(desk.ask(f"share {b} {a} {c}"), text(heap.share_now((b, a, c))))
                self.assert_exact(desk.ask(f"before {b} {c}"), text(heap.before_now(b, c)))
            for three, state in heap.states():
                self.assert_exact(desk.ask("state {} {} {}".format(*three)), state)

    def test_any_other_value(self):
        desk = Desk(EACH, 0)
        for value in NO_LINES + NOT_EVENTS + ODD_VALUES + (("count",), ["count"], b"count", ("find", 0, 1)):
            if value != "find 0 1":
                self.assert_no_row(desk.ask, value)
                self.assert_no_row(desk.ask_all, value, ("count", value, "x"))
        self.assert_exact((list(desk), desk.log()), ([], ()))

    def test_what_the_live_heap_refuses(self):
        desk = Desk(EACH, 0)
        desk.ask("bar 0 3")
        for line, name in (
            ("share 0 0 1", "three"), ("share 0 1 6", "three"), ("before 0 1", "one"), ("before 1 0", "other"), ("before 1 1", "other"),
            ("before 6 1", "one"), ("place 6", "leaf"), ("next 0 0", "find"), ("next 0 2", "find"),
        ):
            self.assert_not_usable(name, desk.ask, line)
            self.assert_not_usable(name, desk.ask_all, ("count", line))
        with self.assertRaises(NothingToUndo) as caught:
            desk.ask("undo 2")
        self.assert_exact(vars(caught.exception), {"steps": 2})
        for line, event, reason in (
            ("find 0 0", ("find", 0, 0), "find"), ("bar 0 1", ("bar", 0, 1), "torn"), ("take 0 1", ("take", 0, 1), "absent"),
            ("hold 0 0 1", ("hold", 0, 0, 1), "three"), ("drop 0 1 2", ("drop", 0, 1, 2), "absent"),
        ):
            with self.assertRaises(InvalidEvent) as caught:
                desk.ask(line)
            self.assert_exact(vars(caught.exception), {"event": event, "reason": reason})
        self.assert_exact((list(desk), desk.log()), (["2"], (("bar", 0, 3),)))

    def test_ask_all(self):
        desk = Desk(LOOSE, 0)
        desk.ask("find 1 2")
        twin = Desk(LOOSE, 0)
        twin.ask("find 1 2")
        for last in ("x", None, "place 9", "undo 9", "take 0 3", "bar 0 0", 7, ["count"]):
            with self.assertRaises(UnsewnError):
                desk.ask_all(("undo 1", "count", "bar 0 1", "undo 1", last, "count"))
            self.assertTrue(desk == twin)
            self.assert_exact((list(desk), desk.log()), (["2"], (("find", 1, 2),)))
        self.assert_exact(desk.ask_all(()), ())
        self.assert_exact(desk.ask_all(lines=("undo 1", "bar 0 1", "count")), ("4", "2", "2"))
        self.assert_exact((list(desk), desk.log()), (["2", "4", "2", "2"], (("bar", 0, 1),)))
        for wrong in (None, True, 0, "count", ["count"], [], {}):
            self.assert_not_usable("lines", desk.ask_all, wrong)

    def test_going_through_a_desk(self):
        desk = Desk(EACH, 0)
        self.assert_exact(list(desk), [])
        desk.ask_all(("count", "find 0 1", "look"))
        told = []
        for answer in desk:
            told.append(answer)
            desk.ask("count")
            desk.ask_all(("place 0", "undo 0"))
        self.assert_exact(told, ["3", "2", "1 2"])
        self.assert_exact(list(desk)[:3] + list(desk)[-1:], ["3", "2", "1 2", "2"])
        self.assertEqual(len(list(desk)), 12)
        self.assert_exact([answer for answer in desk][3:6], ["2", "0/1", "2"])

    def test_equal(self):
        one, other = Desk(LOOSE, 0), Desk(LOOSE, 0)
        self.assertTrue(one == other)
        one.ask("find 1 2")
        self.assertTrue(one != other)
        other.ask("find 1 2")
        self.assertTrue(one == other)
        self.assertFalse(one != other)
        # Equal heaps, but other answers; the same answers, but other heaps.
        one.ask("count")
        self.assertFalse(one == other)
        other.ask("undo 0")
        self.assertTrue(one == other)
        one, other = Desk(LOOSE, 0), Desk(LOOSE, 0)
        one.ask("find 1 2")
        other.ask("find 1 3")
        self.assert_exact(list(one), list(other))
        self.assertFalse(one == other)
        for told in (LiveHeap(LOOSE, 0), Desk(LOOSE, 1), Desk(RING, 0), (), None, LOOSE, [], "4"):
            self.assertFalse(Desk(LOOSE, 0) == told)
            self.assertTrue(Desk(LOOSE, 0) != told)

    def test_edges(self):
        desk = Desk(SINGLE, 0)
        self.assert_exact(desk.ask_all(("count", "look", "place 0", "undo 0", "state 0 0 0")), ("1", "none", "0/1", "1", "absent"))
        self.assert_not_usable("find", desk.ask, "next 0 0")
        desk = Desk(cover=1, book=PAIR)
        self.assert_exact((desk.ask(line="next 0 1"), desk.ask("find 0 1"), desk.ask("next 1 0")), ("1/1", "1", "1/1"))
        self.assert_exact(Desk(ONE, 2).ask_all(("bar 2 0", "count", "look")), ("1", "1", "none"))

    def test_refusals(self):
        for book in ODD_VALUES + ((2, ((0, 1),)), (2, ((0, 0), (1, 1))), (1, ()), list(RING), (3, list(RING[1])), (10 ** 59, ())):
            for cover in (0, None):
                self.assert_not_usable("book", Desk, book, cover)
        for wrong in NOT_NUMBERS + (5,):
            self.assert_not_usable("cover", Desk, LOOSE, wrong)
        with self.assertRaises(NotUsable):
            Desk(LOOSE, -1)

    def test_each_method_stands_in_the_class(self):
        for name in ("__init__", "ask", "ask_all", "log", "__eq__", "__iter__"):
            self.assertIn(name, vars(Desk))
