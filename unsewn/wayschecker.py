"""The checker of ways of three."""

from unsewn.checks import need
from unsewn.errors import InvalidPaper
from unsewn.kinds import are_below, is_three, is_tuple_of


def lets_ways(book, three, thing):
    """How many leaves stand in the ways of three."""
    need(is_three(book, three), "three")
    leaves = book[1]
    if not is_tuple_of(lambda way: are_below(len(leaves), way), thing) or len(thing) != 3:
        raise InvalidPaper("kind", -1)
    a, b, c = three
    used = [a, b, c]
    for i, (one, other) in enumerate([(a, c), (c, b), (b, a)]):
        word = leaves[one][1]
        for j, leaf in enumerate(thing[i]):
            if leaf in used:
                raise InvalidPaper("used", (i, j))
            if leaves[leaf][0] != word:
                raise InvalidPaper("step", (i, j))
            used.append(leaf)
            word = leaves[leaf][1]
        if word != leaves[other][0]:
            raise InvalidPaper("end", i)
    return len(used) - 3
