"""The exits of a reading, and the reading by its exits."""

from unsewn.checks import need
from unsewn.heapcounts import from_word
from unsewn.kinds import are_below, is_leaf, is_tuple_of
from unsewn.readings import is_reading


def exits_of(book, reading):
    """The exits of the reading, by word."""
    need(is_reading(book, reading), "reading")
    rows = [[] for _ in range(book[0])]
    for leaf in reading:
        rows[book[1][leaf][0]].append(leaf)
    return tuple([tuple(row) for row in rows])


def is_exits(book, first, thing):
    """Whether thing is the exits of a reading from first."""
    need(is_leaf(book, first), "first")
    size, leaves = book
    if not is_tuple_of(lambda row: are_below(len(leaves), row), thing) or len(thing) != size:
        return False
    if not all([tuple(sorted(thing[word])) == from_word(book, word) for word in range(size)]):
        return False
    home = leaves[first][0]
    return thing[home][0] == first and lead_home(book, home, [row[-1] for row in thing])


def lead_home(book, home, lasts):
    """Whether one comes from each word to home along the leaves that stand in lasts by word."""
    for start in range(book[0]):
        word = start
        steps = 0
        while word != home and steps < book[0]:
            word = book[1][lasts[word]][1]
            steps += 1
        if word != home:
            return False
    return True


def reading_by(book, first, exits):
    """The reading from first that has these exits."""
    need(is_leaf(book, first), "first")
    need(is_exits(book, first, exits), "exits")
    leaves = book[1]
    used = [0] * book[0]
    word = leaves[first][0]
    row = []
    while len(row) < len(leaves):
        leaf = exits[word][used[word]]
        used[word] += 1
        row.append(leaf)
        word = leaves[leaf][1]
    return tuple(row)
