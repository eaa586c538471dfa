"""A book with a cover as an object that tells shares."""

from unsewn.bestrows import best_row
from unsewn.checks import need
from unsewn.kinds import is_book, is_leaf
from unsewn.looks import best_look
from unsewn.nexts import next_share
from unsewn.places import mean_place
from unsewn.shares import before_share


class Shares:
    """Tells what the functions of stages 10 to 12 tell of one book and one cover."""

    def __init__(self, book, cover):
        need(is_book(book), "book")
        need(is_leaf(book, cover), "cover")
        self._book = book
        self._cover = cover

    def before(self, one, other):
        """The share in which one is before other."""
        return before_share(self._book, self._cover, one, other)

    def mean(self, leaf):
        """The leaf's mean place."""
        return mean_place(self._book, self._cover, leaf)

    def follows(self, find):
        """The share in which a reading has the find."""
        return next_share(self._book, find)

    def ranked(self):
        """The row that ascends by mean place."""
        return best_row(self._book, self._cover)

    def look(self):
        """The find whose share is nearest to one half."""
        return best_look(self._book)
