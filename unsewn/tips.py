"""Which leaves can come first behind the cover, and which last."""

from unsewn.checks import need
from unsewn.kinds import is_leaf
from unsewn.nexts import next_rows


def firsts_of(book, cover):
    """The set of the leaves that come next behind the cover in at least one reading."""
    need(is_leaf(book, cover), "cover")
    return tuple([leaf for leaf, share in next_rows(book)[cover] if share != (0, 1)])


def lasts_of(book, cover):
    """The set of the leaves that come next ahead of the cover in at least one reading."""
    need(is_leaf(book, cover), "cover")
    rows = next_rows(book)
    return tuple([
        leaf for leaf in range(len(rows))
        for told, share in rows[leaf] if told == cover and share != (0, 1)
    ])
