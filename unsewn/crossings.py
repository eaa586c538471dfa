"""Books whose fans are all two: which words cross in a reading, and how words lie to three leaves."""

from unsewn.checks import need
from unsewn.kinds import is_three
from unsewn.readings import is_reading, started_at
from unsewn.rings import comes_round
from unsewn.walks import fans_of


def are_twofold(book):
    """Whether every word has the fan two."""
    return all([fan == 2 for fan in fans_of(book)])


def word_places(book, reading):
    """By word, a list of the indices at which a leaf in the reading begins with it."""
    firsts = [book[1][leaf][0] for leaf in reading]
    return [[at for at in range(len(firsts)) if firsts[at] == word] for word in range(book[0])]


def one_behind(places, low, high):
    """1 if just one of the places stands behind low, and not behind high; else 0."""
    return 1 if len([place for place in places if low < place <= high]) == 1 else 0


def crossings(book, reading):
    """A tuple of rows, by word, each by word: 1 if the two words cross, else 0."""
    need(are_twofold(book), "book")
    need(is_reading(book, reading), "reading")
    places = word_places(book, reading)
    # A word's second place stands behind its first one and not behind its second one, but does not cross itself.
    return tuple([
        tuple([0 if x == y else one_behind(places[y], places[x][0], places[x][1]) for y in range(book[0])])
        for x in range(book[0])
    ])


def types_of(book, reading, three):
    """By word, a pair: whether just one of its leaves stands behind a up to b; and behind b up to c."""
    need(are_twofold(book), "book")
    need(is_reading(book, reading), "reading")
    need(is_three(book, three) and comes_round(reading, three), "three")
    told = started_at(book, reading, three[0])
    b = told.index(three[1])
    c = told.index(three[2])
    return tuple([(one_behind(places, 0, b), one_behind(places, b, c)) for places in word_places(book, told)])
