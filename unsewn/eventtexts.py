"""The lines of events."""

from unsewn.checks import need
from unsewn.liveevents import is_event, is_log


def event_line(event):
    """The event's string and its numbers, with one space between."""
    need(is_event(event), "event")
    return " ".join([str(part) for part in event])


def log_lines(log):
    """The tuple of the lines of the log's events."""
    need(is_log(log), "log")
    return tuple([event_line(event) for event in log])
