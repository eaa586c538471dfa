"""What the tests share: exact comparison, and the ways in which a call is refused."""

import unittest

from tests.books import exact
from unsewn.errors import NotUsable

NOT_NUMBERS = (None, True, False, -1, 10 ** 59, "", "0", (), (0,), [0], ((0, 1),))
NOT_TUPLES = (None, True, 0, 1, "012", [], [0, 1, 2], [(0, 1)])
NOT_THREES = NOT_TUPLES + (
    (), (0,), (0, 1), (0, 0, 1), (0, 1, 1), (0, 1, True), (False, 1, 2), (0, 1, -1), (0, 1, 99), (0, 1, 2, 3),
    (0, 1, "2"), (0, 1, None), ([0], 1, 2), ((0, 1, 2),),
)
NOT_LOTS = NOT_TUPLES + ((1, 0), (0, 0), (0, True), (False,), (-1,), (99,), (0, None), ("0",), ((0,),), ([0],))


class Case(unittest.TestCase):
    """A test case that tells True from 1 and a tuple from a list."""

    def assert_exact(self, value, expected, told=None):
        self.assertEqual(exact(value), exact(expected), told)

    def assert_not_usable(self, name, call, *args):
        with self.assertRaises(NotUsable) as caught:
            call(*args)
        self.assert_exact((caught.exception.word, caught.exception.at), (name, -1), (call, args))

    def assert_refused_in_order(self, call, good, wrong):
        """Each wrong value of a parameter is refused under its name, with whatever stands behind it.

        good is a tuple of (name, value) for all parameters; wrong is a dict from a name to a tuple of values. Behind a
        wrong value all others are wrong, too, so that the order of the refusals shows.
        """
        for at, (name, _) in enumerate(good):
            for value in wrong.get(name, ()):
                ahead = [kept for _, kept in good[:at]]
                behind = [kept for _, kept in good[at + 1:]]
                broken = [None if other in wrong else kept for other, kept in good[at + 1:]]
                self.assert_not_usable(name, call, *ahead, value, *behind)
                self.assert_not_usable(name, call, *ahead, value, *broken)
