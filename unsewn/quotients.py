"""Quotients: pairs (top, bottom) in lowest terms, reckoned with exactly."""

from math import gcd

from unsewn.checks import need
from unsewn.kinds import is_integer, is_quotient, is_tuple_of


def quotient(top, bottom):
    """The quotient that stands for top / bottom."""
    need(is_integer(top), "top")
    need(is_integer(bottom) and bottom != 0, "bottom")
    shared = gcd(top, bottom)
    if bottom < 0:
        shared = -shared
    return top // shared, bottom // shared


def need_both(one, other):
    """Refuse one, then other, if it is no quotient."""
    need(is_quotient(one), "one")
    need(is_quotient(other), "other")


def plus(one, other):
    """The sum."""
    need_both(one, other)
    return quotient(one[0] * other[1] + other[0] * one[1], one[1] * other[1])


def minus(one, other):
    """One less other."""
    need_both(one, other)
    return quotient(one[0] * other[1] - other[0] * one[1], one[1] * other[1])


def times(one, other):
    """The product."""
    need_both(one, other)
    return quotient(one[0] * other[0], one[1] * other[1])


def over(one, other):
    """One divided by other, which is not nought."""
    need_both(one, other)
    need(other[0] != 0, "other")
    return quotient(one[0] * other[1], one[1] * other[0])


def is_less(one, other):
    """Whether one is less than other."""
    need_both(one, other)
    return one[0] * other[1] < other[0] * one[1]


def total(quotients):
    """The sum of a tuple of quotients."""
    need(is_tuple_of(is_quotient, quotients), "quotients")
    sum_so_far = (0, 1)
    for part in quotients:
        sum_so_far = plus(sum_so_far, part)
    return sum_so_far
