"""A book with a cover as an object that tells what is sure."""

from unsewn.checks import need
from unsewn.kinds import is_book, is_leaf
from unsewn.layers import layers_of, room_of
from unsewn.surely import sure_before, sure_pairs


class Sure:
    """Tells which leaves are surely before which, for one book and one cover."""

    def __init__(self, book, cover):
        need(is_book(book), "book")
        need(is_leaf(book, cover), "cover")
        self._book = book
        self._cover = cover

    def pairs(self):
        """The set of the sure pairs."""
        return sure_pairs(self._book, self._cover)

    def layers(self):
        """The layers of the sure pairs."""
        return layers_of(self._book, self._cover)

    def room(self, leaf):
        """The least and the greatest place that the sure pairs leave to the leaf."""
        return room_of(self._book, self._cover, leaf)

    def is_before(self, one, other):
        """Whether one is surely before other."""
        return sure_before(self._book, self._cover, one, other)
