"""How many trees and how many readings a book has."""

from math import factorial

from unsewn.checks import need
from unsewn.determinants import swept, walk_rows
from unsewn.kinds import is_word
from unsewn.walks import fans_of


def tree_count(book, word):
    """How many trees into the word there are."""
    need(is_word(book, word), "word")
    return swept(walk_rows(book, word))[0]


def reading_count(book):
    """How many readings from one leaf there are."""
    many = tree_count(book, 0)
    for fan in fans_of(book):
        many = many * factorial(fan - 1)
    return many
