"""A map as an object."""

from unsewn.checks import need
from unsewn.lands import lands_of
from unsewn.maps import map_of
from unsewn.maptexts import map_lines


class Map:
    """Keeps one map of three leaves."""

    def __init__(self, book, three):
        chart = map_of(book, three)
        need(chart is not None, "three")
        self._book = book
        self._three = three
        self._chart = chart

    def lots(self):
        """The map's lots."""
        return self._chart[0]

    def rounds(self):
        """The map's rounds."""
        return self._chart[1]

    def lands(self):
        """The pair of the map's two sets of lands."""
        return lands_of(self._book, self._three, self._chart)

    def lines(self):
        """The map's lines."""
        return map_lines(self._chart)
