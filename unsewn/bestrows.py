"""Rows of the leaves other than the cover, and how far they stand from the readings."""

from math import lcm

from unsewn.checks import need
from unsewn.kinds import are_different, is_leaf
from unsewn.places import mean_places
from unsewn.quotients import minus, times


def is_row(book, cover, thing):
    """Whether thing is a tuple of all leaves but the cover, each once."""
    need(is_leaf(book, cover), "cover")
    many = len(book[1])
    return are_different(many, thing) and len(thing) == many - 1 and cover not in thing


def best_row(book, cover):
    """The row that ascends by mean place, and at equal ones by leaf."""
    means = mean_places(book, cover)
    shared = 1
    for _, bottom in means:
        shared = lcm(shared, bottom)
    whole = [top * (shared // bottom) for top, bottom in means]
    ranked = sorted([(whole[leaf], leaf) for leaf in range(len(means)) if leaf != cover])
    return tuple([leaf for _, leaf in ranked])


def row_cost(book, cover, row):
    """The mean, over all readings, of the sum of the squares of place less place in the row."""
    need(is_leaf(book, cover), "cover")
    need(is_row(book, cover, row), "row")
    means = mean_places(book, cover)
    # In each reading, as in the row, the places of these leaves are 1, 2, .. so their squares add up alike.
    cost = (2 * sum([place * place for place in range(len(means))]), 1)
    for at in range(len(row)):
        cost = minus(cost, times((2 * (at + 1), 1), means[row[at]]))
    return cost
