"""Trees into a word."""

from unsewn.checks import need
from unsewn.exits import exits_of, lead_home
from unsewn.growing import grown_rows
from unsewn.heapcounts import from_word
from unsewn.kinds import is_leaf, is_word


def is_tree(book, word, thing):
    """Whether thing is a tree into the word."""
    need(is_word(book, word), "word")
    size, leaves = book
    if not isinstance(thing, tuple) or len(thing) != size or thing[word] is not None:
        return False
    others = [other for other in range(size) if other != word]
    if not all([is_leaf(book, thing[other]) and leaves[thing[other]][0] == other for other in others]):
        return False
    return lead_home(book, word, thing)


def trees_of(book, word):
    """A generator of all trees into the word, ascending when the None is left out of each."""
    need(is_word(book, word), "word")
    start = ()
    size = book[0]
    yield from grown_rows(start, size, lambda tree: leaves_to_grow(book, word, tree))


def leaves_to_grow(book, home, tree):
    """A list of what, ascending, can stand next in a tree into home that begins so: leaves, or None alone at home."""
    if len(tree) == home:
        return [None]
    return [leaf for leaf in from_word(book, len(tree)) if can_grow(book, home, tree + (leaf,))]


def can_grow(book, home, tree):
    """Whether some tree into home begins so.

    It does exactly if one can come home from each word, going from the words at hand by their leaves alone: of the
    other words, each takes a leaf that brings it nearer.
    """
    leaves = book[1]
    kept = [
        leaves[leaf] for leaf in range(len(leaves))
        if leaves[leaf][0] >= len(tree) or tree[leaves[leaf][0]] == leaf
    ]
    led_home = {home: True}
    before = 0
    while before < len(led_home):
        before = len(led_home)
        for first, catchword in kept:
            if catchword in led_home:
                led_home[first] = True
    return len(led_home) == book[0]


def tree_of(book, reading):
    """For each word but the reading's first one, the last leaf in the reading that begins with it."""
    exits = exits_of(book, reading)
    home = book[1][reading[0]][0]
    return tuple([None if word == home else exits[word][-1] for word in range(book[0])])
