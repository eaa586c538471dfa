"""Which values are maps."""

from unsewn.errors import InvalidPaper
from unsewn.mapchecker import lets_map


def is_map(book, three, thing):
    """Whether thing is a map of a, b, c."""
    try:
        lets_map(book, three, thing)
    except InvalidPaper:
        return False
    return True
