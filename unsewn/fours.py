"""Shares of the orders of four leaves."""

from unsewn.checks import need
from unsewn.kinds import are_different
from unsewn.quotients import quotient
from unsewn.shares import lead_round, scaled_leads


def four_gap(book, four):
    """The share of the order a, b, c, d less that of a, d, c, b."""
    need(are_different(len(book[1]), four) and len(four) == 4, "four")
    leads = scaled_leads(book)
    return quotient(lead_round(leads, four), 2 * leads[0])
