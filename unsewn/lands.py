"""The lands of a map, and charts in the mirror."""

from unsewn.checks import need
from unsewn.kinds import is_three
from unsewn.landrings import rings_by
from unsewn.mapkinds import is_map
from unsewn.maptexts import is_chart


def lands_of(book, three, chart):
    """The pair of the sets of lands: those by the leaf next behind, those by the leaf next ahead."""
    need(is_three(book, three), "three")
    need(is_map(book, three, chart), "chart")
    rounds = chart[1]
    return rings_by(rounds, 1), rings_by(rounds, -1)


def mirrored(chart):
    """The chart in which each tuple of the second one keeps its first number, the others turned about."""
    need(is_chart(chart), "chart")
    lots, rounds = chart
    return lots, tuple([leaves[:1] + leaves[:0:-1] for leaves in rounds])
