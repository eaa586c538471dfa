"""The kinds of values: integers, quotients, heaps, books, and what belongs to a heap."""

from math import gcd

from unsewn.checks import need
from unsewn.reach import reached_from


def is_integer(thing):
    """Whether thing is an int that is not a bool."""
    return isinstance(thing, int) and not isinstance(thing, bool)


def is_number(thing):
    """Whether thing is an integer that is at least 0."""
    return is_integer(thing) and thing >= 0


def is_string(thing):
    """Whether thing is a string."""
    return isinstance(thing, str)


def are_lines(thing):
    """Whether thing is a tuple of at least one string."""
    return is_tuple_of(is_string, thing) and len(thing) > 0


def is_below(many, thing):
    """Whether thing is a number below many."""
    return is_number(thing) and thing < many


def is_tuple_of(check, thing):
    """Whether thing is a tuple of values for each of which the check holds."""
    return isinstance(thing, tuple) and all([check(part) for part in thing])


def are_below(many, thing):
    """Whether thing is a tuple of numbers below many."""
    return is_tuple_of(lambda part: is_below(many, part), thing)


def is_pair_below(many, thing):
    """Whether thing is a pair of numbers below many."""
    return are_below(many, thing) and len(thing) == 2


def are_pairs_below(many, thing):
    """Whether thing is a tuple of pairs of numbers below many."""
    return is_tuple_of(lambda part: is_pair_below(many, part), thing)


def ascends(row):
    """Whether each element of the row, numbers or tuples of numbers, is less than the next one."""
    return all([row[at] < row[at + 1] for at in range(len(row) - 1)])


def is_quotient(thing):
    """Whether thing is a pair (top, bottom) in lowest terms, bottom at least 1."""
    if not is_tuple_of(is_integer, thing) or len(thing) != 2:
        return False
    return thing[1] >= 1 and gcd(thing[0], thing[1]) == 1


def is_heap(thing):
    """Whether thing is a heap."""
    if not isinstance(thing, tuple) or len(thing) != 2:
        return False
    size, leaves = thing
    if not is_number(size) or size == 0:
        return False
    return are_pairs_below(size, leaves)


def is_book(thing):
    """Whether thing is a book."""
    if not is_heap(thing):
        return False
    size, leaves = thing
    # Each word of a book begins a leaf, so a size beyond the leaves is refused without going through the words.
    if size > len(leaves):
        return False
    surplus = [0] * size
    for first, catchword in leaves:
        surplus[first] -= 1
        surplus[catchword] += 1
    return not any(surplus) and len(reached_from(leaves, 0)) == size


def is_word(heap, thing):
    """Whether thing is a word of the heap."""
    return is_below(heap[0], thing)


def is_leaf(heap, thing):
    """Whether thing is a leaf of the heap."""
    return is_below(len(heap[1]), thing)


def is_lot(heap, thing):
    """Whether thing is a set of words of the heap."""
    return is_set_below(heap[0], thing)


def is_set_below(many, thing):
    """Whether thing is an ascending tuple of numbers below many."""
    return are_below(many, thing) and ascends(thing)


def are_different(many, thing):
    """Whether thing is a tuple of different numbers below many."""
    return are_below(many, thing) and len(set(thing)) == len(thing)


def is_three(heap, thing):
    """Whether thing is a tuple of three different leaves of the heap."""
    return are_different(len(heap[1]), thing) and len(thing) == 3


def is_order(many, thing):
    """Whether thing is a tuple of all numbers below many, each once."""
    need(is_number(many), "many")
    return are_different(many, thing) and len(thing) == many
