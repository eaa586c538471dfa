"""The leaves' mean places."""

from unsewn.checks import need
from unsewn.kinds import is_leaf
from unsewn.quotients import minus, plus, times
from unsewn.walks import walk_back, walk_of


def mean_place(book, cover, leaf):
    """The leaf's mean place."""
    need(is_leaf(book, cover), "cover")
    need(is_leaf(book, leaf), "leaf")
    return mean_places(book, cover)[leaf]


def mean_places(book, cover):
    """All leaves' mean places, by leaf."""
    need(is_leaf(book, cover), "cover")
    leaves = book[1]
    last, start = leaves[cover]
    there = walk_of(book, last)
    back = walk_back(book, start)
    base = plus((len(leaves), 1), minus(there[start], back[last]))
    places = []
    for leaf in range(len(leaves)):
        first, catchword = leaves[leaf]
        twice = plus(base, minus(back[first], there[catchword]))
        places.append((0, 1) if leaf == cover else times(twice, (1, 2)))
    return tuple(places)
