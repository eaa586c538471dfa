"""A book as an object."""

from unsewn.booktexts import book_line
from unsewn.checks import need
from unsewn.errors import Unsound
from unsewn.heapchecker import fault_of
from unsewn.heapcounts import fan_of
from unsewn.kinds import is_heap
from unsewn.makings import hung, parted
from unsewn.turns import backwards


class Book:
    """A heap that is a book."""

    def __init__(self, heap):
        need(is_heap(heap), "heap")
        fault = fault_of(heap)
        if fault is not None:
            raise Unsound(fault)
        self._heap = heap

    def plain(self):
        """The heap."""
        return self._heap

    def many(self):
        """How many leaves it has."""
        return len(self._heap[1])

    def text(self):
        """Its line."""
        return book_line(self._heap)

    def fan(self, word):
        """How many leaves begin with the word."""
        return fan_of(self._heap, word)

    def backwards(self):
        """A new Book in which each leaf's two words have changed places."""
        return Book(backwards(self._heap))

    def hung(self, word):
        """A new Book with a loop at the word behind all leaves."""
        return Book(hung(self._heap, word))

    def parted(self, leaf):
        """A new Book with the leaf parted by a new word."""
        return Book(parted(self._heap, leaf))

    def __eq__(self, other):
        return isinstance(other, Book) and self._heap == other._heap
