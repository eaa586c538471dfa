"""How far one goes along the ring from leaf to leaf."""

from unsewn.checks import need
from unsewn.kinds import are_different, is_leaf
from unsewn.quotients import quotient
from unsewn.shares import lead_round, scaled_leads


def laps_mean(book, leaves):
    """The mean of how many times one goes round who goes from leaf to leaf and back to the first."""
    need(are_different(len(book[1]), leaves) and len(leaves) >= 2, "leaves")
    leads = scaled_leads(book)
    many = leads[0]
    return quotient(len(leaves) * many - lead_round(leads, leaves), 2 * many)


def distance_mean(book, one, other):
    """The mean index of other in the readings from one."""
    need(is_leaf(book, one), "one")
    need(is_leaf(book, other) and other != one, "other")
    many, rows = scaled_leads(book)
    length = len(book[1])
    top = length * (many - rows[one][other]) + sum(rows[one]) - sum(rows[other])
    return quotient(top, 2 * many)
