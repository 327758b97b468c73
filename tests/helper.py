"""What the tests share."""

import unittest
from itertools import permutations

from keepsapart.errors import KeepError

# Twelve places, more than any world may have, in ascending order.
TWELVE = ("a", "aa", "b", "c", "d", "e", "f", "g", "h", "i", "j", "zzzzzz")
SEVEN = TWELVE[:7]
FORTY = tuple(sorted(first + second for first in "abcd" for second in "abcdefghij"))

# Raw places that are none: empty, too long, with other signs than letters from a to z.
NO_PLACES = (
    "", "abcdefg", "abcdefghijkl", "A", "aB", "Z", "a1", "1", "a b", " a", "a ", " ", "a-b", "_", "a.b",
    "{", "`", "~", "@", "[", "ab!",
)


def ways_in(web):
    """All ways in a web, found by the definition alone, ascending."""
    ties = set(web.ties) | {(b, a) for a, b in web.ties}
    return sorted(
        way for many in range(1, len(web.places) + 1) for way in permutations(web.places, many)
        if all(step in ties for step in zip(way, way[1:]))
    )


class Case(unittest.TestCase):
    """A test case that knows how a call is refused."""

    def refused(self, error, function, *args, **named):
        """The call raises an error of the same class with equal attributes."""
        with self.assertRaises(KeepError) as caught:
            function(*args, **named)
        self.assertIs(type(caught.exception), type(error))
        self.assertEqual(vars(caught.exception), vars(error))

    def same_kind(self, found, wanted):
        """The two are equal, and of the same kinds of values at every depth."""
        self.assertEqual(found, wanted)
        self.assertEqual(repr(found), repr(wanted))

    def fresh_list(self, function, *args, **named):
        """The call returns a list, and changing it does not change a later answer."""
        first = function(*args, **named)
        self.assertIs(type(first), list)
        kept = list(first)
        first.append("changed")
        first.reverse()
        self.same_kind(function(*args, **named), kept)
