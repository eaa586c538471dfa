"""How often one step stands further left than another one in a text, in the mean."""

from unsewn.checks import need
from unsewn.kinds import is_leaf, is_pair_below
from unsewn.quotients import total
from unsewn.shares import before_rows


def leaves_by(book, cover, pair):
    """A list of the leaves other than the cover that are put by the pair."""
    return [leaf for leaf in range(len(book[1])) if book[1][leaf] == pair and leaf != cover]


def pair_mean(book, cover, one, other):
    """The mean, over all texts, of how often a step one stands further left than a step other."""
    need(is_leaf(book, cover), "cover")
    need(is_pair_below(book[0], one), "one")
    need(is_pair_below(book[0], other), "other")
    # Each text belongs to the same number of readings, so the mean over these is the same.
    before = before_rows(book, cover)
    return total(tuple([
        before[e][f] for e in leaves_by(book, cover, one) for f in leaves_by(book, cover, other)
    ]))
