"""The walk to a ground and the walk back to it."""

from unsewn.checks import need
from unsewn.kinds import is_word
from unsewn.quotients import quotient
from unsewn.tables import scaled_table


def fans_of(book):
    """How many leaves begin with each word, by word."""
    fans = [0] * book[0]
    for first, _ in book[1]:
        fans[first] += 1
    return fans


def walk_of(book, ground):
    """The walk of each word to the ground."""
    need(is_word(book, ground), "ground")
    many, rows = scaled_table(book, ground)
    fans = fans_of(book)
    return tuple([quotient(sum([top * fan for top, fan in zip(row, fans)]), many) for row in rows])


def walk_back(book, ground):
    """The walk of each word to the ground in the book backwards."""
    need(is_word(book, ground), "ground")
    # Each word is even, so the book backwards has the same fans, and its table is this one turned over.
    many, rows = scaled_table(book, ground)
    fans = fans_of(book)
    return tuple([
        quotient(sum([rows[x][word] * fans[x] for x in range(book[0])]), many)
        for word in range(book[0])
    ])
