"""The lines of slips."""

from unsewn.checks import need
from unsewn.slips import are_slips


def slip_lines(slips):
    """A tuple of strings, one for each slip: its two names with one space between."""
    need(are_slips(slips), "slips")
    return tuple([first + " " + catchword for first, catchword in slips])
