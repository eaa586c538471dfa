from tests.books import ODD_VALUES
from tests.cases import Case
from unsewn.errors import InvalidRow, InvalidText
from unsewn.eventreadings import read_event, read_log
from unsewn.eventtexts import event_line, log_lines
from unsewn.liveevents import is_event, is_log

EVENTS = (
    ("find", 0, 2), ("bar", 10, 0), ("take", 0, 0), ("hold", 0, 10, 2), ("drop", 7, 7, 7), ("find", 10 ** 59, 1), ("drop", 3, 0, 1),
)
NOT_EVENTS = ODD_VALUES + (
    ("find",), ("find", 0), ("find", 0, 1, 2), ("hold", 0, 1), ("hold", 0, 1, 2, 3), ("drop", 0, 1), ("bar", 0), ("take", 0, 1, 2), ("take",),
    ("look", 0, 1), ("undo", 1), ("count",), ("Find", 0, 1), ("find ", 0, 1), ("", 0, 1), ("find", -1, 0), ("find", 0, True),
    ("find", False, 0), ("find", "0", 1), ("find", 0, None), ("find", (0, 1)), (("find", 0, 1),), ["find", 0, 1], "find 0 1", (0, 1, "find"),
    (None, 0, 1), (["find"], 0, 1), (("find",), 0, 1), (1, 0, 1), (True, 0, 1), ({}.get("find"), 0, 1),
)
NO_EVENT_LINES = (
    "", " ", "find", "find ", "find 0", "find 0 ", "find  0 1", "find 0  1", " find 0 1", "find 0 1 ", "find 0 1 2", "find 00 2", "find 0 02",
    "find -1 0", "find +1 0", "find a 0", "find 0 1.0", "Find 0 1", "finds 0 1", "hold 0 1", "hold 0 1 2 3", "hold 0 1 x", "undo 1", "count",
    "look", "find,0,1", "find 0,1", "find 1_0 2", "find 0x1 2", "0 1 find", "find ~ 1", "('find', 0, 1)",
)


class TestEvents(Case):
    def test_examples(self):
        self.assert_exact((is_event(("find", 0, 0)), is_event(("hold", 0, 1)), is_log([])), (True, False, False))
        self.assert_exact(log_lines((("hold", 0, 10, 2),)), ("hold 0 10 2",))
        self.assert_not_usable("log", log_lines, (("bar", 0, 1), ("take", 0, True)))

    def test_which_are_events(self):
        for event in EVENTS:
            self.assert_exact((is_event(event), is_log((event,)), is_log([event]), is_log(event)), (True, True, False, False))
        for thing in NOT_EVENTS:
            self.assert_exact((is_event(thing), is_log((thing,)), is_log((EVENTS[0], thing))), (False, False, False), thing)
        self.assert_exact((is_log(()), is_log(EVENTS), is_log(EVENTS * 12), is_event(())), (True, True, True, False))
        for thing in ODD_VALUES:
            self.assert_exact(is_log(thing), thing == ())
        self.assert_exact((is_event(thing=EVENTS[0]), is_log(thing=EVENTS)), (True, True))

    def test_lines(self):
        told = ("find 0 2", "bar 10 0", "take 0 0", "hold 0 10 2", "drop 7 7 7", f"find {10 ** 59} 1", "drop 3 0 1")
        self.assert_exact(tuple(event_line(event) for event in EVENTS), told)
        self.assert_exact((log_lines(EVENTS), log_lines(())), (told, ()))
        self.assert_exact((event_line(event=("bar", 0, 1)), log_lines(log=(("bar", 0, 1),))), ("bar 0 1", ("bar 0 1",)))

    def test_refusals(self):
        for thing in NOT_EVENTS:
            self.assert_not_usable("event", event_line, thing)
            self.assert_not_usable("log", log_lines, (EVENTS[0], thing))
            if thing not in ((), (("find", 0, 1),)):
                self.assert_not_usable("log", log_lines, thing)
        self.assert_not_usable("log", log_lines, list(EVENTS))
        self.assert_not_usable("log", log_lines, EVENTS[0])


class TestReadEvent(Case):
    def assert_no_row(self, value):
        with self.assertRaises(InvalidRow) as caught:
            read_event(value)
        self.assertIs(caught.exception.row, value)

    def test_lines_and_events_undo_each_other(self):
        for event in EVENTS:
            self.assert_exact(read_event(event_line(event)), event)
        self.assert_exact(read_event(line="hold 0 10 2"), ("hold", 0, 10, 2))
        large = int("9" * 3900)
        self.assert_exact(read_event("bar 0 " + "9" * 3900), ("bar", 0, large))

    def test_any_other_value(self):
        for value in NO_EVENT_LINES + NOT_EVENTS + EVENTS:
            if value != "find 0 1":
                self.assert_no_row(value)


class TestReadLog(Case):
    def assert_invalid(self, line, field, lines):
        with self.assertRaises(InvalidText) as caught:
            read_log(lines)
        self.assert_exact((caught.exception.line, caught.exception.field), (line, field), lines)

    def test_examples(self):
        self.assert_exact(read_log(("find 0 2", "take 0 2")), (("find", 0, 2), ("take", 0, 2)))
        self.assert_invalid(1, 2, ("find 0 2", "bar 0 "))

    def test_lines_and_logs_undo_each_other(self):
        self.assert_exact((read_log(log_lines(EVENTS)), read_log(()), read_log(lines=("bar 1 0",))), (EVENTS, (), (("bar", 1, 0),)))

    def test_lines_that_are_no_events(self):
        for line, field in (
            ("", 0), (" ", 0), ("Find 0 1", 0), ("finds 0 1", 0), ("undo 1", 0), ("count", 0), (" find 0 1", 0), ("x 00", 0), ("find,0,1", 0),
            ("find ", 1), ("find  0 1", 1), ("find 00 2", 1), ("find a b", 1), ("find 0 ", 2), ("find 0  1", 2), ("find 0 02", 2),
            ("find 0 1 ", 3), ("find 0 1 2 x", 4), ("find 0 -1", 2), ("hold 0 1 02", 3), ("drop x", 1), ("find 0 1 +2", 3),
            ("find", -1), ("find 0", -1), ("find 0 1 2", -1), ("hold 0 1", -1), ("hold 0 1 2 3", -1), ("take", -1), ("bar 0 1 2", -1),
        ):
            self.assert_invalid(0, field, (line,))
            self.assert_invalid(1, field, ("drop 0 1 2", line, "", "find"))

    def test_each_line_that_read_event_refuses(self):
        for line in NO_EVENT_LINES:
            with self.assertRaises(InvalidText):
                read_log((line,))

    def test_refusals(self):
        for wrong in ODD_VALUES + ([], ["find 0 1"], ("find 0 1", None), ("find 0 1", 1), (("find 0 1",),), "find 0 1", ("find", 0, 1)):
            if wrong != ():
                self.assert_not_usable("lines", read_log, wrong)
        # A value that is no string is refused ahead of a line that is wrong.
        self.assert_not_usable("lines", read_log, ("x", None))
