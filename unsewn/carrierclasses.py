"""The string texts that are alike a text, as an object."""

from unsewn.checks import need
from unsewn.kinds import is_below
from unsewn.textnumbers import number_of_text, text_at
from unsewn.texts import text_count
from unsewn.turns import renamed
from unsewn.windows import alike_by, counts_of, is_string_text, spelled, text_book, windows_of


class Concordance:
    """All string texts alike a text, ascending as strings."""

    def __init__(self, text, width):
        grams, book, cover = text_book(text, width)
        # All these texts begin with one gram, so they ascend as their words do where the words ascend as the grams.
        self._grams = tuple(sorted(grams))
        self._book = renamed(book, tuple([self._grams.index(gram) for gram in grams]))
        self._cover = cover
        self._text = text
        self._width = width
        self._alike = alike_by(text, width)

    def many(self):
        """How many alike texts there are."""
        return text_count(self._book, self._cover)

    def counts(self):
        """The set of pairs of a window and how often it is one."""
        return counts_of(self._text, self._width)

    def kth(self, index):
        """The alike text at this index."""
        need(is_below(self.many(), index), "index")
        return spelled(self._grams, text_at(self._book, self._cover, index))

    def number(self, text):
        """How many alike texts are less than the text."""
        need(is_string_text(text) and len(text) == len(self._text), "text")
        need(alike_by(text, self._width) == self._alike, "text")
        words = [self._grams.index(gram) for gram in windows_of(text, self._width - 1)]
        return number_of_text(self._book, self._cover, tuple(words))

    def __eq__(self, other):
        return isinstance(other, Concordance) and self._width == other._width and self._alike == other._alike
