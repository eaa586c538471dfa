"""Maps behind a find."""

from unsewn.changes import is_find_within
from unsewn.checks import need
from unsewn.cutting import cut_book
from unsewn.glueing import glued, rows_with
from unsewn.kinds import is_three
from unsewn.mapkinds import is_map
from unsewn.maps import map_with


def three_after(book, three, find):
    """The three leaves of the glued book into which a, b, c have gone; None if two have gone into one."""
    need(is_three(book, three), "three")
    gone = rows_with(glued(book, find)[1], three)
    return gone if len(set(gone)) == 3 else None


def map_after(book, three, chart, find):
    """Any map of three_after in the glued book that has the same lots as the chart."""
    need(is_three(book, three), "three")
    need(is_map(book, three, chart), "chart")
    need(is_find_within(book, find), "find")
    gone = three_after(book, three, find)
    need(gone is not None, "find")
    # No word is left out, so the words of the glued book cut are those of the book cut.
    return map_with(cut_book(glued(book, find)[0], gone), chart[0])
