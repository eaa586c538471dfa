"""Which values are finds of a book."""

from unsewn.kinds import are_different, ascends, is_tuple_of


def is_find(book, thing):
    """Whether thing is a find of the book."""
    leaves = book[1]
    if not are_different(len(leaves), thing) or len(thing) != 2:
        return False
    return leaves[thing[0]][1] == leaves[thing[1]][0]


def is_set_of_finds(book, thing):
    """Whether thing is a set of pairs, each a find, whether they go together or not."""
    return is_tuple_of(lambda part: is_find(book, part), thing) and ascends(thing)


def close_ring(finds):
    """Whether some of the finds, no two with one first and no two with one second leaf, close a ring."""
    behind = {e: f for e, f in finds}
    for e in behind:
        leaf = behind[e]
        while leaf != e and leaf in behind:
            leaf = behind[leaf]
        if leaf == e:
            return True
    return False


def are_finds(book, thing):
    """Whether thing is a set of finds of which some reading could have all, by their leaves alone."""
    if not is_set_of_finds(book, thing):
        return False
    if len({e for e, _ in thing}) < len(thing) or len({f for _, f in thing}) < len(thing):
        return False
    return not close_ring(thing)
