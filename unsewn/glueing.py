"""Books glued by finds."""

from unsewn.checks import need
from unsewn.counts import reading_count
from unsewn.errors import Torn
from unsewn.findkinds import are_finds, is_find
from unsewn.kinds import is_book


def packed(pairs):
    """The heap of the pairs of words without the words that stand in none of them."""
    words = sorted({word for pair in pairs for word in pair})
    return len(words), tuple([(words.index(first), words.index(catchword)) for first, catchword in pairs])


def book_of_rows(book, rows):
    """What is left of the book if each row of leaves, each next behind the one ahead, is one leaf: a heap.

    A word without leaves is left out. The heap is a book unless the rows tear the book.
    """
    leaves = book[1]
    return packed([(leaves[row[0]][0], leaves[row[-1]][1]) for row in rows])


def rows_by(book, finds):
    """The rows into which the leaves go by the finds, by their first leaves."""
    behind = {e: f for e, f in finds}
    seconds = [f for _, f in finds]
    rows = []
    for leaf in range(len(book[1])):
        if leaf not in seconds:
            row = [leaf]
            while row[-1] in behind:
                row.append(behind[row[-1]])
            rows.append(tuple(row))
    return tuple(rows)


def rows_with(rows, leaves):
    """The tuple of the indices of the rows in which the leaves stand."""
    return tuple([at for leaf in leaves for at, row in enumerate(rows) if leaf in row])


def glued(book, find):
    """The pair of the book glued by the find and the rows."""
    need(is_find(book, find), "find")
    # A find is of two different leaves, so it closes no ring by itself.
    return glued_all(book, (find,))


def glued_all(book, finds):
    """The pair of the book glued by all the finds and the rows."""
    need(are_finds(book, finds), "finds")
    rows = rows_by(book, finds)
    made = book_of_rows(book, rows)
    if not is_book(made):
        raise Torn(finds)
    return made, rows


def count_with(book, finds):
    """How many readings have all the finds."""
    need(are_finds(book, finds), "finds")
    return count_by_rows(book, rows_by(book, finds))


def count_by_rows(book, rows):
    """How many readings have the leaves of each row next behind each other."""
    made = book_of_rows(book, rows)
    return reading_count(made) if is_book(made) else 0
