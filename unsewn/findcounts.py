"""How many readings have finds, bar finds, and have an order."""

from unsewn.barring import count_having, orders_having
from unsewn.checks import need
from unsewn.findkinds import are_finds, is_set_of_finds
from unsewn.kinds import is_three


def are_barred(book, thing):
    """Whether thing is a set of at most four pairs, each a find."""
    return is_set_of_finds(book, thing) and len(thing) <= 4


def order_count_with(book, finds, three):
    """How many readings have all the finds and the order a, b, c."""
    need(are_finds(book, finds), "finds")
    need(is_three(book, three), "three")
    return orders_having(book, finds, (), (three,))


def count_barring(book, finds, barred):
    """How many readings have all the finds and none of the barred."""
    need(are_finds(book, finds), "finds")
    need(are_barred(book, barred), "barred")
    return count_having(book, finds, barred)


def order_count_barring(book, finds, barred, three):
    """How many readings have all the finds, none of the barred, and the order a, b, c."""
    need(are_finds(book, finds), "finds")
    need(are_barred(book, barred), "barred")
    need(is_three(book, three), "three")
    return orders_having(book, finds, barred, (three,))
