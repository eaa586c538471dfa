"""Papers by which anybody can reckon the share of an order."""

from unsewn.checks import need
from unsewn.kinds import is_three
from unsewn.tables import column_of


def share_paper(book, three):
    """Any share paper of three."""
    need(is_three(book, three), "three")
    # All grounds do alike.
    return 0, tuple([column_of(book, 0, book[1][leaf][0]) for leaf in three])
