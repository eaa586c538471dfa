"""Tables moved to another ground, and turned over."""

from unsewn.checks import need
from unsewn.kinds import is_below, is_quotient, is_tuple_of
from unsewn.quotients import minus, plus


def is_table(thing):
    """Whether thing is a tuple of at least one row, each a tuple of as many quotients as there are rows."""
    if not isinstance(thing, tuple) or thing == ():
        return False
    return all([is_tuple_of(is_quotient, row) and len(row) == len(thing) for row in thing])


def regrounded(table, word):
    """The square of G[x][y] - G[word][y] - G[x][word] + G[word][word], G being the table."""
    need(is_table(table), "table")
    many = len(table)
    need(is_below(many, word), "word")
    return tuple([tuple([regrounded_entry(table, word, x, y) for y in range(many)]) for x in range(many)])


def regrounded_entry(table, word, x, y):
    """The entry at x and y of the table with the ground word."""
    return minus(plus(table[x][y], table[word][word]), plus(table[word][y], table[x][word]))


def turned_over(table):
    """The square whose row x is the column x of the table."""
    need(is_table(table), "table")
    return tuple([tuple([row[x] for row in table]) for x in range(len(table))])
