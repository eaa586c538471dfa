"""Books for the tests, and plain ways to go through all that they have."""

import random
from fractions import Fraction
from itertools import combinations_with_replacement, permutations, product

RING = (3, ((0, 1), (1, 2), (2, 0)))
EACH = (3, ((0, 1), (1, 2), (2, 0), (1, 0), (2, 1), (0, 2)))
LOOSE = (2, ((1, 0), (0, 0), (0, 1), (0, 1), (1, 0)))
ONE = (1, ((0, 0), (0, 0), (0, 0)))
SINGLE = (1, ((0, 0),))
PAIR = (2, ((0, 1), (1, 0)))
SAMPLES = (RING, EACH, LOOSE, ONE, SINGLE, PAIR)

# Any values that are neither numbers nor tuples of the kinds that the functions take.
ODD_VALUES = (
    None, True, False, -1, 10 ** 59, "", "0", "word", (), (None,), (0, 1, 2, 3, 4, 5, 6, 7), [], [0, 1], [0, 1, 2],
    (True, False), (0, True, 2), ((0, 1), [2]), ((((),),),), ("a", 1), (0, "1", 2), (-1, 0, 1), (0, 0, 0), (None, None),
)


def is_book_plainly(heap):
    size, leaves = heap
    for word in range(size):
        begin = [leaf for leaf in leaves if leaf[0] == word]
        end = [leaf for leaf in leaves if leaf[1] == word]
        if not begin or len(begin) != len(end):
            return False
    lot = {0}
    for _ in range(size):
        for first, catchword in leaves:
            if first in lot or catchword in lot:
                lot |= {first, catchword}
    return lot == set(range(size))


def small_books(most_words, most_leaves):
    """All books up to a size, their leaves ascending."""
    for size in range(1, most_words + 1):
        pairs = list(product(range(size), repeat=2))
        for many in range(size, most_leaves + 1):
            for leaves in combinations_with_replacement(pairs, many):
                if is_book_plainly((size, leaves)):
                    yield (size, leaves)


def small_heaps(most_words, most_leaves):
    """All heaps up to a size, their leaves ascending."""
    for size in range(1, most_words + 1):
        pairs = list(product(range(size), repeat=2))
        for many in range(most_leaves + 1):
            for leaves in combinations_with_replacement(pairs, many):
                yield (size, leaves)


def random_book(rng, size, many):
    """A book of the size, whose leaves are those of rings laid together, in any order; of about so many leaves."""
    while True:
        words = list(range(size)) + [rng.randrange(size) for _ in range(many - size)]
        follows = list(words)
        rng.shuffle(words)
        rng.shuffle(follows)
        heap = (size, tuple(zip(words, follows)))
        if is_book_plainly(heap):
            return heap


def random_books(seed, many, most_words, most_leaves):
    rng = random.Random(seed)
    for _ in range(many):
        size = rng.randrange(1, most_words + 1)
        yield random_book(rng, size, rng.randrange(size, most_leaves + 1))


def all_readings(book, first):
    """All readings from first, found by laying leaf behind leaf."""
    leaves = book[1]

    def lay(row):
        if len(row) == len(leaves):
            if leaves[row[-1]][1] == leaves[first][0]:
                yield tuple(row)
            return
        for leaf in range(len(leaves)):
            if leaf not in row and leaves[leaf][0] == leaves[row[-1]][1]:
                yield from lay(row + [leaf])

    return list(lay([first]))


def all_pairings_plainly(book):
    """All pairings, found by going through all orders of the leaves."""
    leaves = book[1]
    return [
        order for order in permutations(range(len(leaves)))
        if all(leaves[leaf][1] == leaves[order[leaf]][0] for leaf in range(len(leaves)))]


def rolls_plainly(pairing):
    """The rolls of a pairing, ascending."""
    rolls = set()
    for leaf in range(len(pairing)):
        roll = [leaf]
        while pairing[roll[-1]] != leaf:
            roll.append(pairing[roll[-1]])
        if min(roll) == leaf:
            rolls.add(tuple(roll))
    return tuple(sorted(rolls))


def plain_finds(book):
    """All finds of the book."""
    leaves = book[1]
    many = range(len(leaves))
    return [(e, f) for e, f in product(many, repeat=2) if e != f and leaves[e][1] == leaves[f][0]]


def has_find(reading, find):
    """Whether the find's second leaf comes next behind its first one in the ring."""
    return reading[(reading.index(find[0]) + 1) % len(reading)] == find[1]


def all_trees(book, word):
    """All trees into the word, found by going through all choices."""
    size, leaves = book
    choices = [[None] if w == word else [i for i, leaf in enumerate(leaves) if leaf[0] == w] for w in range(size)]
    trees = []
    for tree in product(*choices):
        homes = 0
        for start in range(size):
            at = start
            for _ in range(size):
                if at != word:
                    at = leaves[tree[at]][1]
            homes += at == word
        if homes == size:
            trees.append(tree)
    return trees


def as_pair(fraction):
    return (fraction.numerator, fraction.denominator)


def share(count, many):
    return as_pair(Fraction(count, many))


def fraction(pair):
    return Fraction(pair[0], pair[1])


def threes(book):
    return permutations(range(len(book[1])), 3)


def comes(reading, three):
    """Whether the three come in their order in the ring."""
    at = [reading.index(leaf) for leaf in three]
    turned = [(place - at[0]) % len(reading) for place in at]
    return turned[1] < turned[2]


def exact(value):
    """A value with the kinds of all its parts, so that True is not 1 and a list is no tuple."""
    if isinstance(value, (tuple, list)):
        return (value.__class__, tuple(exact(part) for part in value))
    return (value.__class__, value)
