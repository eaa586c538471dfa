"""Readings that begin with told leaves: how many there are, without going through them."""

from unsewn.counts import reading_count
from unsewn.kinds import is_book
from unsewn.quotients import times
from unsewn.shares import order_share


def book_behind(book, row):
    """What is left of the book if the leaves of the row, each next behind the one ahead, are glued into the leaf 0.

    The other leaves stand behind it, ascending. A word without leaves is left out, so that the result may be a book.
    """
    leaves = book[1]
    glued = [(leaves[row[0]][0], leaves[row[-1]][1])]
    glued.extend([leaves[leaf] for leaf in range(len(leaves)) if leaf not in row])
    words = sorted({word for pair in glued for word in pair})
    return len(words), tuple([(words.index(first), words.index(catchword)) for first, catchword in glued])


def count_behind_row(book, row):
    """How many readings begin with the row."""
    rest = book_behind(book, row)
    return reading_count(rest) if is_book(rest) else 0


def ordered_behind_row(book, row, three):
    """How many readings that begin with the row, and so with a, have the order a, b, c."""
    _, b, c = three
    if c in row:
        ahead = b in row and row.index(b) < row.index(c)
        return count_behind_row(book, row) if ahead else 0
    many = count_behind_row(book, row)
    if b in row or many == 0:
        return many
    others = [leaf for leaf in range(len(book[1])) if leaf not in row]
    share = order_share(book_behind(book, row), (0, 1 + others.index(b), 1 + others.index(c)))
    return times((many, 1), share)[0]
