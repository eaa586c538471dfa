"""The texts of readings: their words, whatever like leaves stand in which order."""

from math import factorial

from unsewn.checks import need
from unsewn.counts import reading_count
from unsewn.growing import grown_rows
from unsewn.kinds import are_below, is_leaf
from unsewn.readings import is_reading, next_leaves


def text_by(book, row):
    """The text of a row that is known to be a reading."""
    return tuple([book[1][leaf][0] for leaf in row[1:] + row[:1]])


def text_of(book, reading):
    """The text of a reading, its first leaf taken as the cover."""
    need(is_reading(book, reading), "reading")
    return text_by(book, reading)


def steps_of(text):
    """The text's steps, a list of pairs of words."""
    return [(text[at], text[at + 1]) for at in range(len(text) - 1)]


def pairs_but(book, row):
    """A list of the pairs of words by which the leaves that are not in the row are put, ascending."""
    return sorted([book[1][leaf] for leaf in range(len(book[1])) if leaf not in row])


def is_text(book, cover, thing):
    """Whether thing is the text of a reading from the cover."""
    need(is_leaf(book, cover), "cover")
    last, first = book[1][cover]
    if not are_below(book[0], thing) or len(thing) != len(book[1]):
        return False
    # Where the steps are those of the leaves, they lead from each leaf on to the next one.
    return thing[0] == first and thing[-1] == last and sorted(steps_of(thing)) == pairs_but(book, (cover,))


def like_orders(pairs):
    """In how many orders like ones among the pairs can stand: the product of the factorials of how many there are."""
    counts = {}
    for pair in pairs:
        counts[pair] = counts.get(pair, 0) + 1
    many = 1
    for pair in counts:
        many = many * factorial(counts[pair])
    return many


def readings_per_text(book, cover):
    """How many readings from the cover have one text."""
    need(is_leaf(book, cover), "cover")
    return like_orders(pairs_but(book, (cover,)))


def text_count(book, cover):
    """How many different texts the readings from the cover have."""
    need(is_leaf(book, cover), "cover")
    return reading_count(book) // readings_per_text(book, cover)


def next_unlike(book, row):
    """The least ones of the like leaves of next_leaves, ascending by their catchwords."""
    leasts = {}
    for leaf in next_leaves(book, row):
        leasts.setdefault(book[1][leaf][1], leaf)
    return [leasts[word] for word in sorted(leasts)]


def texts_of(book, cover):
    """A generator of the texts of the readings from the cover, ascending."""
    need(is_leaf(book, cover), "cover")
    start = (cover,)
    many = len(book[1])
    # Of the readings of a text, just one has all like leaves in their order.
    for reading in grown_rows(start, many, lambda row: next_unlike(book, row)):
        yield text_by(book, reading)
