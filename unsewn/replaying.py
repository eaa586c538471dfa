"""A live heap made by a log."""

from unsewn.checks import need
from unsewn.live import LiveHeap
from unsewn.liveevents import is_log


def replayed(book, cover, log):
    """A new LiveHeap of the book and the cover behind all events of the log."""
    heap = LiveHeap(book, cover)
    need(is_log(log), "log")
    heap.do_all(log)
    return heap
