"""Readings made of each other by exchanging two stretches."""

from unsewn.checks import need
from unsewn.kinds import is_number, is_tuple_of
from unsewn.readings import is_reading


def is_step(book, reading, thing):
    """Whether thing is a step of the reading."""
    need(is_reading(book, reading), "reading")
    if not is_tuple_of(is_number, thing) or len(thing) != 4:
        return False
    i, j, k, end = thing
    if not 0 < i < j <= k < end <= len(reading):
        return False
    row = [book[1][leaf] for leaf in reading]
    return row[i][0] == row[k][0] and row[j - 1][1] == row[end - 1][1]


def exchanged(book, reading, step):
    """The reading in which the two stretches of the step have changed places."""
    need(is_reading(book, reading), "reading")
    need(is_step(book, reading, step), "step")
    i, j, k, end = step
    return reading[:i] + reading[k:end] + reading[j:k] + reading[i:j] + reading[end:]


def is_reading_alike(book, one, thing):
    """Whether thing is a reading from the same leaf as the reading one."""
    return is_reading(book, thing) and thing[0] == one[0]


def steps_between(book, one, other):
    """Any tuple of steps that make other of one, no more than there are leaves, less words."""
    need(is_reading(book, one), "one")
    need(is_reading_alike(book, one, other), "other")
    steps = []
    reached = one
    # A step at an index needs a second leaf of its word behind it, so each word takes one less than its fan.
    for at in range(1, len(one)):
        if reached[at] != other[at]:
            step = step_to(book, reached, at, reached.index(other[at]))
            steps.append(step)
            reached = exchanged(book, reached, step)
    return tuple(steps)


def step_to(book, reading, at, k):
    """A step by which the leaf at the index k comes to the index at, some reading that begins alike having it there.

    There is one: if no word that is come to ahead of k were come to behind it, a reading with the leaf at k there
    could not come back for the leaves from the index at on.
    """
    catchwords = [book[1][leaf][1] for leaf in reading]
    return min([
        (at, j, k, end)
        for j in range(at + 1, k + 1) for end in range(k + 1, len(reading) + 1)
        if catchwords[j - 1] == catchwords[end - 1]
    ])
