"""In which share of the readings leaves come in an order."""

from unsewn.checks import need
from unsewn.kinds import is_leaf, is_three
from unsewn.quotients import quotient
from unsewn.tables import scaled_table


def scaled_leads(book):
    """A pair (many, rows): many trees, and times many for leaves e and f the number w(e, f) of which shares are made.

    The sum of w round three leaves is the same with each ground, so the ground 0 does for all.
    """
    many, table = scaled_table(book, 0)
    leaves = book[1]
    rows = [[table[e[1]][f[0]] - table[f[1]][e[0]] for f in leaves] for e in leaves]
    return many, rows


def lead_round(leads, ring):
    """The sum of what scaled_leads returns for each leaf and the next one, round a tuple of leaves."""
    rows = leads[1]
    return sum([rows[ring[at - 1]][ring[at]] for at in range(len(ring))])


def share_in(leads, three):
    """The share of the order of the three, by what scaled_leads returns."""
    many = leads[0]
    return quotient(many + lead_round(leads, three), 2 * many)


def order_share(book, three):
    """The share of the order a, b, c."""
    need(is_three(book, three), "three")
    return share_in(scaled_leads(book), three)


def before_share(book, cover, one, other):
    """The share in which one is before other."""
    need(is_leaf(book, cover), "cover")
    need(is_leaf(book, one) and one != cover, "one")
    need(is_leaf(book, other) and other != cover and other != one, "other")
    return share_in(scaled_leads(book), (cover, one, other))


def before_rows(book, cover):
    """Row e has at each leaf f the share in which e is before f."""
    need(is_leaf(book, cover), "cover")
    leads = scaled_leads(book)
    many = len(book[1])
    return tuple([tuple([entry_before(leads, cover, e, f) for f in range(many)]) for e in range(many)])


def entry_before(leads, cover, one, other):
    """The share in which one is before other, for any two leaves, by what scaled_leads returns."""
    if one == other or other == cover:
        return 0, 1
    if one == cover:
        return 1, 1
    return share_in(leads, (cover, one, other))
