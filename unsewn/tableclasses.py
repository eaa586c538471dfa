"""The table of a book and a ground as an object."""

from unsewn.checks import need
from unsewn.findkinds import is_find
from unsewn.glueing import glued
from unsewn.heapcounts import fan_of
from unsewn.kinds import is_book, is_word
from unsewn.tables import column_of, table_of
from unsewn.tabletexts import table_lines


class Table:
    """Tells the table of one book and one ground."""

    def __init__(self, book, ground):
        need(is_book(book), "book")
        need(is_word(book, ground), "ground")
        self._book = book
        self._ground = ground
        self._rows = table_of(book, ground)

    def entry(self, x, y):
        """The entry in the row of x and the column of y."""
        need(is_word(self._book, x), "x")
        need(is_word(self._book, y), "y")
        return self._rows[x][y]

    def column(self, word):
        """The column of the word."""
        return column_of(self._book, self._ground, word)

    def lines(self):
        """The lines of the table."""
        return table_lines(self._rows)

    def moved(self, word):
        """A new Table of the same book with the ground word."""
        need(is_word(self._book, word), "word")
        return Table(self._book, word)

    def behind(self, find):
        """A new Table of the book glued by the find, with the same ground under its new number."""
        need(is_find(self._book, find), "find")
        between = self._book[1][find[1]][0]
        left_out = fan_of(self._book, between) == 1
        need(not left_out or between != self._ground, "find")
        made = glued(self._book, find)[0]
        if left_out and between < self._ground:
            return Table(made, self._ground - 1)
        return Table(made, self._ground)

    def __eq__(self, other):
        return isinstance(other, Table) and self._book == other._book and self._ground == other._ground
