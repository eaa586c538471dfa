"""In which share of the readings one leaf comes next behind another."""

from unsewn.checks import need
from unsewn.findkinds import is_find
from unsewn.quotients import quotient
from unsewn.tables import scaled_table
from unsewn.walks import fans_of


def share_of_find(book, many, table, fans, find):
    """The share of the find, by the scaled table with any ground and the fans."""
    e, f = find
    first, between = book[1][e]
    catchword = book[1][f][1]
    if fans[between] == 1:
        return 1, 1
    top = many + table[between][first] - table[between][between]
    top += table[catchword][between] - table[catchword][first]
    return quotient(top, many * (fans[between] - 1))


def next_share(book, find):
    """The share in which a reading has the find."""
    need(is_find(book, find), "find")
    many, table = scaled_table(book, 0)
    return share_of_find(book, many, table, fans_of(book), find)


def next_rows(book):
    """For each leaf e the set of pairs (f, share) for all finds (e, f)."""
    many, table = scaled_table(book, 0)
    fans = fans_of(book)
    leaves = book[1]
    rows = []
    for e in range(len(leaves)):
        behind = [f for f in range(len(leaves)) if is_find(book, (e, f))]
        rows.append(tuple([(f, share_of_find(book, many, table, fans, (e, f))) for f in behind]))
    return tuple(rows)
