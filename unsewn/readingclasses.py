"""A reading as an object."""

from unsewn.checks import need
from unsewn.exits import exits_of
from unsewn.findkinds import is_find
from unsewn.kinds import is_book, is_leaf
from unsewn.readings import is_reading, started_at


class Reading:
    """A reading of a book, from its first leaf."""

    def __init__(self, book, leaves):
        need(is_book(book), "book")
        need(is_reading(book, leaves), "leaves")
        self._book = book
        self._row = leaves

    def leaves(self):
        """The reading as a tuple."""
        return self._row

    def from_leaf(self, first):
        """A new Reading of the same ring, from first."""
        need(is_leaf(self._book, first), "first")
        return Reading(self._book, started_at(self._book, self._row, first))

    def index_of(self, leaf):
        """The index of the leaf in the reading."""
        need(is_leaf(self._book, leaf), "leaf")
        return self._row.index(leaf)

    def next_of(self, leaf):
        """The leaf next behind it in the ring."""
        need(is_leaf(self._book, leaf), "leaf")
        return self._row[(self._row.index(leaf) + 1) % len(self._row)]

    def exits(self):
        """The exits of the reading."""
        return exits_of(self._book, self._row)

    def has(self, find):
        """Whether the reading has the find."""
        need(is_find(self._book, find), "find")
        return self.next_of(find[0]) == find[1]

    def __eq__(self, other):
        return isinstance(other, Reading) and self._book == other._book and self._row == other._row
