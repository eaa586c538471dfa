"""Layers of the sure pairs, near pairs, and the room that they leave to a leaf."""

from unsewn.checks import need
from unsewn.kinds import is_leaf
from unsewn.surely import sure_pairs


def heads_of(book, cover):
    """A dict that gives each leaf but the cover a list of the leaves with which a sure pair that ends in it begins."""
    heads = {leaf: [] for leaf in range(len(book[1])) if leaf != cover}
    for e, f in sure_pairs(book, cover):
        heads[f].append(e)
    return heads


def layers_of(book, cover):
    """At the index n the set of the leaves in which a row of n sure pairs ends, but none of n + 1."""
    need(is_leaf(book, cover), "cover")
    heads = heads_of(book, cover)
    layers = []
    left = sorted(heads)
    while left:
        layer = [leaf for leaf in left if not any([head in left for head in heads[leaf]])]
        layers.append(tuple(layer))
        left = [leaf for leaf in left if leaf not in layer]
    return tuple(layers)


def near_pairs(book, cover):
    """The set of the sure pairs with no leaf between."""
    need(is_leaf(book, cover), "cover")
    heads = heads_of(book, cover)
    return tuple([
        (e, f) for e, f in sure_pairs(book, cover)
        if not any([e in heads[between] for between in heads[f]])
    ])


def room_of(book, cover, leaf):
    """The least and the greatest place that the sure pairs leave to the leaf."""
    need(is_leaf(book, cover), "cover")
    need(is_leaf(book, leaf), "leaf")
    if leaf == cover:
        return 0, 0
    pairs = sure_pairs(book, cover)
    ahead = len([f for _, f in pairs if f == leaf])
    behind = len([e for e, _ in pairs if e == leaf])
    return 1 + ahead, len(book[1]) - 1 - behind
