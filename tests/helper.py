"""What the tests share."""

import unittest
from functools import lru_cache
from itertools import permutations, product

from keepsapart.errors import BadLot, BadPlace, BadRule, BadSaying, KeepError, TooMany, Unknown

# Twelve places, more than any world may have, in ascending order.
TWELVE = ("a", "aa", "b", "c", "d", "e", "f", "g", "h", "i", "j", "zzzzzz")
SEVEN = TWELVE[:7]
FIVE = ("a", "b", "c", "d", "e")
FORTY = tuple(sorted(first + second for first in "abcd" for second in "abcdefghij"))

# Raw places that are none: empty, too long, with other signs than letters from a to z.
NO_PLACES = (
    "", "abcdefg", "abcdefghijkl", "A", "aB", "Z", "a1", "1", "a b", " a", "a ", " ", "a-b", "_", "a.b",
    "{", "`", "~", "@", "[", "ab!",
)

# Tuples of three lots that are no sayings: an empty left or right lot, or a place in two lots.
NO_SAYINGS = (
    ((), (), ()), ((), (), ("a",)), (("a",), (), ()), ((), ("a",), ()), (("a",), ("b",), ()), ((), ("a",), ("b",)),
    (("a",), (), ("a",)), (("a",), ("a",), ("b",)), (("a",), ("b",), ("b",)), (("a", "c"), ("b",), ("c", "d")),
    (("a", "b"), ("b", "c"), ("d",)), (("d",), ("a", "b"), ("b", "c")), (("a",), ("a",), ("a",)),
)

# What is refused before the form of the three lots matters, with its error; each is no saying over a, b, c and d.
NO_LOTS = (
    ((("A",), ("B",), ("C",)), BadPlace("A")),
    ((("b", "a", "A"), ("B",), ("C",)), BadPlace("A")),
    ((("b", "a"), ("B",), ("C",)), BadLot(("b", "a"))),
    ((("a", "a"), ("B",), ("C",)), BadLot(("a", "a"))),
    (((), ("B",), ("C",)), BadPlace("B")),
    (((), ("d", "c"), ("C",)), BadLot(("d", "c"))),
    (((), (), ("b", "a", "C")), BadPlace("C")),
    (((), (), ("b", "a")), BadLot(("b", "a"))),
    ((("a",), ("a",), ("a", "a")), BadLot(("a", "a"))),
)
UNKNOWN = (
    ((("x",), ("B",), ("C",)), Unknown("x")),
    ((("a", "x", "y"), ("c", "b"), ()), Unknown("x")),
    (((), ("y",), ("b", "a")), Unknown("y")),
    ((("a",), ("a", "z"), ("C",)), Unknown("z")),
    ((("a",), ("a",), ("a", "z")), Unknown("z")),
    (((), (), ("aa",)), Unknown("aa")),
)

# Lines that are no written saying, whatever the world.
NO_SAYING_LINES = [
    "", " ", "|", "| |", " | | ", "||", "a", "a b", "a | b", "a |", "a | |", "a | | ", "| | b", " | | b", "a || b",
    "a|  |b", "a | |b", "a| | b", "a|b|c", "a  | | b", "a |  | b", "a | |  b", " a | | b", "a | | b ", "b a | | c",
    "a | c b | d", "a | | c b", "a a | | b", "a | | a", "a | a | b", "a | b | b", "a c | b | c", "a | b | b c",
    "a | | b |", "| a | | b", "a | | b | c", "a | b | c | d", "A | | b", "a | B | c", "a | | b1",
    "a , | b", "a | | b ; a | | c", "a ; | b", "a : | b", "1 : a | | b", "a | | b : c", "(a) | | b",
    "a | | abcdefg", "abcdefg | | b", "a | abcdefg | b", "a | | b.", "a | - | b", "a | () | b", "web a b",
]


def written(saying):
    """The written saying, by the definition."""
    words = list(saying[0]) + ["|"] + list(saying[1]) + ["|"] + list(saying[2])
    return " ".join(words)


def triples(places):
    """The sayings over a world, by the definition: each place in the left, between or right lot or outside."""
    return list(kept_triples(places))


@lru_cache
def kept_triples(places):
    found = []
    for roles in product("xzy-", repeat=len(places)):
        lots = tuple(tuple(p for p, role in zip(places, roles) if role == word) for word in "xzy")
        if lots[0] and lots[2]:
            found.append(lots)
    return tuple(sorted(found))


def joined(*lots):
    """The lot of the places of lots that share none."""
    return tuple(sorted(sum(lots, ())))


def uses_over(places):
    """All uses over a world as point [30] shows them, ascending."""
    return list(kept_uses(places))


@lru_cache
def kept_uses(places):
    found = set()
    for x, z, y in triples(places):
        found.add((1, ((x, z, y),), ((y, z, x),)))
        for place in [place for place in places if place not in x + z + y]:
            w = (place,)
            found.add((2, ((x, z, joined(y, w)),), ((x, z, y),)))
            found.add((3, ((x, z, y),), ((x, joined(z, w), y),)))
            found.add((4, ((x, joined(z, w), y), (x, joined(z, y), w)), ((x, z, joined(y, w)),)))
            found.add((5, ((x, z, y),), ((x, z, w), (w, z, y))))
    return tuple(sorted(found))


def ways_in(web):
    """All ways in a web, found by the definition alone, ascending."""
    ties = set(web.ties) | {(b, a) for a, b in web.ties}
    return sorted(
        way for many in range(1, len(web.places) + 1) for way in permutations(web.places, many)
        if all(step in ties for step in zip(way, way[1:]))
    )


class Case(unittest.TestCase):
    """A test case that knows how a call is refused."""

    def refused(self, error, function, *args, **named):
        """The call raises an error of the same class with equal attributes."""
        with self.assertRaises(KeepError) as caught:
            function(*args, **named)
        self.assertIs(type(caught.exception), type(error))
        self.assertEqual(vars(caught.exception), vars(error))

    def same_kind(self, found, wanted):
        """The two are equal, and of the same kinds of values at every depth."""
        self.assertEqual(found, wanted)
        self.assertEqual(repr(found), repr(wanted))

    def fresh_list(self, function, *args, **named):
        """The call returns a list, and changing it does not change a later answer."""
        first = function(*args, **named)
        self.assertIs(type(first), list)
        kept = list(first)
        first.append("changed")
        first.reverse()
        self.same_kind(function(*args, **named), kept)

    def checks_world(self, call, most):
        """The call checks its argument as a world with this bound."""
        self.refused(BadPlace("A"), call, ("b", "a", "A"))
        self.refused(BadPlace(""), call, TWELVE + ("",))
        self.refused(BadLot(("b", "a")), call, ("b", "a"))
        self.refused(BadLot(("a", "a")), call, ("a", "a"))
        self.refused(BadLot(TWELVE[::-1]), call, TWELVE[::-1])
        self.refused(TooMany(most, most + 1), call, TWELVE[:most + 1])
        self.refused(TooMany(most, 40), call, FORTY)

    def checks_saying(self, call):
        """The call checks its argument as a saying over a, b, c and d, or these and e."""
        for lots, error in NO_LOTS + UNKNOWN:
            self.refused(error, call, lots)
        for lots in NO_SAYINGS:
            self.refused(BadSaying(lots), call, lots)

    def checks_list(self, call, most=10):
        """The call checks its argument as a list of sayings with this bound, over such a world."""
        good, bad = (("a",), ("b",), ("c",)), (("A",), (), ())
        self.refused(TooMany(most, most + 1), call, [bad] * (most + 1))
        self.refused(TooMany(most, most + 1), call, (good,) * (most + 1))
        self.refused(TooMany(most, 700), call, [good] * 700)
        self.checks_saying(lambda lots: call([good, lots, bad]))
        self.checks_saying(lambda lots: call((lots, bad)))

    def checks_rules(self, call, most):
        """The call checks its argument as a tuple of rules, the greatest of which is the bound."""
        for rules, found in (
            ((0,), 0), ((-1, 9), -1), ((6,), 6), ((most + 1,), most + 1), ((1, 1), 1), ((2, 1), 1), ((1, 3, 3), 3),
            ((1, 2, 3, 4, 6, 0), 6), ((999999999,), 999999999), ((1, 2, 3, 2, 9), 2), ((-999999999,), -999999999),
            ((1, 0), 0), ((1, 2, most + 1, 1), most + 1), ((1,) * 700, 1),
        ):
            self.refused(BadRule(found), call, rules)
