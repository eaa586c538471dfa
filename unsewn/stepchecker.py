"""The checker of steps between readings."""

from unsewn.checks import need
from unsewn.errors import InvalidPaper
from unsewn.exchanges import exchanged, is_reading_alike, is_step
from unsewn.kinds import is_number, is_tuple_of
from unsewn.readings import is_reading


def is_four_numbers(thing):
    """Whether thing is a tuple of four numbers."""
    return is_tuple_of(is_number, thing) and len(thing) == 4


def lets_steps(book, one, other, thing):
    """How many steps, making other of one, thing has."""
    need(is_reading(book, one), "one")
    need(is_reading_alike(book, one, other), "other")
    if not is_tuple_of(is_four_numbers, thing):
        raise InvalidPaper("kind", -1)
    reached = one
    for at in range(len(thing)):
        if not is_step(book, reached, thing[at]):
            raise InvalidPaper("step", at)
        reached = exchanged(book, reached, thing[at])
    if reached != other:
        raise InvalidPaper("end", -1)
    return len(thing)
