"""String texts, their windows and grams, and the books that they make."""

from unsewn.checks import need
from unsewn.kinds import are_below, is_integer, is_string, is_tuple_of


def is_string_text(thing):
    """Whether thing is a string that is not empty."""
    return is_string(thing) and thing != ""


def is_width(least, most, thing):
    """Whether thing is an integer from least to most."""
    return is_integer(thing) and least <= thing <= most


def windows_of(text, width):
    """The tuple of the windows, from left to right."""
    need(is_string_text(text), "text")
    need(is_width(1, len(text), width), "width")
    return tuple([text[at:at + width] for at in range(len(text) - width + 1)])


def text_book(text, width):
    """A triple (grams, book, cover): the different grams by first appearance, and the windows as leaves."""
    need(is_string_text(text), "text")
    need(is_width(2, len(text), width), "width")
    words = {}
    row = []
    for gram in windows_of(text, width - 1):
        words.setdefault(gram, len(words))
        row.append(words[gram])
    leaves = [(row[at], row[at + 1]) for at in range(len(row) - 1)] + [(row[-1], row[0])]
    return tuple(words), (len(words), tuple(leaves)), len(leaves) - 1


def are_grams(thing):
    """Whether thing is a tuple of at least one string, all different, of one length of at least 1."""
    if not is_tuple_of(is_string_text, thing) or len(thing) == 0:
        return False
    return all([len(gram) == len(thing[0]) for gram in thing]) and len(set(thing)) == len(thing)


def is_spelling(grams, thing):
    """Whether thing is a tuple of at least one index of grams, each gram going on with the one behind it."""
    if not are_below(len(grams), thing) or len(thing) == 0:
        return False
    return all([grams[thing[at]][1:] == grams[thing[at + 1]][:-1] for at in range(len(thing) - 1)])


def spelled(grams, text):
    """The string text whose grams, from left to right, have the indices in text."""
    need(are_grams(grams), "grams")
    need(is_spelling(grams, text), "text")
    return grams[text[0]] + "".join([grams[index][-1] for index in text[1:]])


def counts_of(text, width):
    """The set of pairs of a window and how often it is one of the windows."""
    counts = {}
    for window in windows_of(text, width):
        counts[window] = counts.get(window, 0) + 1
    return tuple([(window, counts[window]) for window in sorted(counts)])


def alike_texts(one, other, width):
    """Whether both have the same counts_of, the same first gram and the same last gram."""
    need(is_string_text(one), "one")
    need(is_string_text(other), "other")
    need(is_width(2, min(len(one), len(other)), width), "width")
    return alike_by(one, width) == alike_by(other, width)


def alike_by(text, width):
    """What texts that are alike share: the counts, the first gram and the last gram."""
    grams = windows_of(text, width - 1)
    return counts_of(text, width), grams[0], grams[-1]
