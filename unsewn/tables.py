"""The table of a book and a ground."""

from unsewn.checks import need
from unsewn.determinants import swept, walk_rows, words_but
from unsewn.kinds import is_word
from unsewn.quotients import quotient


def scaled_table(book, ground):
    """A pair (many, rows): the table, each quotient times the number of trees, many, and so an integer."""
    kept = words_but(book, ground)
    width = len(kept)
    walks = walk_rows(book, ground)
    # The table is what undoes the walk rows, so they are swept with the rows of ones beside them.
    many, rows = swept([list(walks[at]) + [0] * at + [1] + [0] * (width - 1 - at) for at in range(width)])
    table = [[0] * book[0] for _ in range(book[0])]
    for at in range(width):
        for k in range(width):
            table[kept[at]][kept[k]] = rows[at][width + k]
    return many, table


def table_of(book, ground):
    """The table of the book and the ground."""
    need(is_word(book, ground), "ground")
    many, rows = scaled_table(book, ground)
    return tuple([tuple([quotient(top, many) for top in row]) for row in rows])


def column_of(book, ground, word):
    """The table's column of the word."""
    need(is_word(book, ground), "ground")
    need(is_word(book, word), "word")
    many, rows = scaled_table(book, ground)
    return tuple([quotient(row[word], many) for row in rows])
