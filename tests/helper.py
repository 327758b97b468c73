"""What the tests share."""

import time
import unittest
from functools import lru_cache
from itertools import combinations, permutations, product

from keepsapart.derive import derive
from keepsapart.errors import BadLot, BadPlace, BadRule, BadSaying, KeepError, Repeated, TooMany, Unknown
from keepsapart.webs import Web

# Twelve places, more than any world may have, in ascending order.
TWELVE = ("a", "aa", "b", "c", "d", "e", "f", "g", "h", "i", "j", "zzzzzz")
SEVEN = TWELVE[:7]
FIVE = ("a", "b", "c", "d", "e")
FORTY = tuple(sorted(first + second for first in "abcd" for second in "abcdefghij"))

# Raw places that are none: empty, too long, with other signs than letters from a to z.
NO_PLACES = (
    "", "abcdefg", "abcdefghijkl", "A", "aB", "Z", "a1", "1", "a b", " a", "a ", " ", "a-b", "_", "a.b",
    "{", "`", "~", "@", "[", "ab!",
)

# Three lots that every check of a saying refuses at its first place.
BAD = (("A",), (), ())

# Tuples of three lots that are no sayings: an empty left or right lot, or a place in two lots.
NO_SAYINGS = (
    ((), (), ()), ((), (), ("a",)), (("a",), (), ()), ((), ("a",), ()), (("a",), ("b",), ()), ((), ("a",), ("b",)),
    (("a",), (), ("a",)), (("a",), ("a",), ("b",)), (("a",), ("b",), ("b",)), (("a", "c"), ("b",), ("c", "d")),
    (("a", "b"), ("b", "c"), ("d",)), (("d",), ("a", "b"), ("b", "c")), (("a",), ("a",), ("a",)),
)

# What is refused before the form of the three lots matters, with its error; each is no saying over a, b, c and d.
NO_LOTS = (
    ((("A",), ("B",), ("C",)), BadPlace("A")),
    ((("b", "a", "A"), ("B",), ("C",)), BadPlace("A")),
    ((("b", "a"), ("B",), ("C",)), BadLot(("b", "a"))),
    ((("a", "a"), ("B",), ("C",)), BadLot(("a", "a"))),
    (((), ("B",), ("C",)), BadPlace("B")),
    (((), ("d", "c"), ("C",)), BadLot(("d", "c"))),
    (((), (), ("b", "a", "C")), BadPlace("C")),
    (((), (), ("b", "a")), BadLot(("b", "a"))),
    ((("a",), ("a",), ("a", "a")), BadLot(("a", "a"))),
)
UNKNOWN = (
    ((("x",), ("B",), ("C",)), Unknown("x")),
    ((("a", "x", "y"), ("c", "b"), ()), Unknown("x")),
    (((), ("y",), ("b", "a")), Unknown("y")),
    ((("a",), ("a", "z"), ("C",)), Unknown("z")),
    ((("a",), ("a",), ("a", "z")), Unknown("z")),
    (((), (), ("aa",)), Unknown("aa")),
)

# Lines that are no written saying, whatever the world.
NO_SAYING_LINES = [
    "", " ", "|", "| |", " | | ", "||", "a", "a b", "a | b", "a |", "a | |", "a | | ", "| | b", " | | b", "a || b",
    "a|  |b", "a | |b", "a| | b", "a|b|c", "a  | | b", "a |  | b", "a | |  b", " a | | b", "a | | b ", "b a | | c",
    "a | c b | d", "a | | c b", "a a | | b", "a | | a", "a | a | b", "a | b | b", "a c | b | c", "a | b | b c",
    "a | | b |", "| a | | b", "a | | b | c", "a | b | c | d", "A | | b", "a | B | c", "a | | b1",
    "a , | b", "a | | b ; a | | c", "a ; | b", "a : | b", "1 : a | | b", "a | | b : c", "(a) | | b",
    "a | | abcdefg", "abcdefg | | b", "a | abcdefg | b", "a | | b.", "a | - | b", "a | () | b", "web a b",
]


def written(saying):
    """The written saying, by the definition."""
    words = list(saying[0]) + ["|"] + list(saying[1]) + ["|"] + list(saying[2])
    return " ".join(words)


def triples(places):
    """The sayings over a world, by the definition: each place in the left, between or right lot or outside."""
    return list(kept_triples(places))


@lru_cache
def kept_triples(places):
    found = []
    for roles in product("xzy-", repeat=len(places)):
        lots = tuple(tuple(p for p, role in zip(places, roles) if role == word) for word in "xzy")
        if lots[0] and lots[2]:
            found.append(lots)
    return tuple(sorted(found))


def joined(*lots):
    """The lot of the places of lots that share none."""
    return tuple(sorted(sum(lots, ())))


def uses_over(places):
    """All uses over a world as point [30] shows them, ascending."""
    return list(kept_uses(places))


@lru_cache
def kept_uses(places):
    found = set()
    for x, z, y in triples(places):
        found.add((1, ((x, z, y),), ((y, z, x),)))
        for place in [place for place in places if place not in x + z + y]:
            w = (place,)
            found.add((2, ((x, z, joined(y, w)),), ((x, z, y),)))
            found.add((3, ((x, z, y),), ((x, joined(z, w), y),)))
            found.add((4, ((x, joined(z, w), y), (x, joined(z, y), w)), ((x, z, joined(y, w)),)))
            found.add((5, ((x, z, y),), ((x, z, w), (w, z, y))))
    return tuple(sorted(found))


@lru_cache
def use_set(places):
    return frozenset(kept_uses(places))


def ways_in(web):
    """All ways in a web, found by the definition alone, ascending."""
    ties = set(web.ties) | {(b, a) for a, b in web.ties}
    return sorted(
        way for many in range(1, len(web.places) + 1) for way in permutations(web.places, many)
        if all(step in ties for step in zip(way, way[1:]))
    )


def lots_of(places):
    """All lots of places of a world, the empty one included, ascending."""
    return sorted(chosen for many in range(len(places) + 1) for chosen in combinations(places, many))


def sides_of(places):
    """All pairs of lots of a world that are not empty and share no place."""
    return [(x, y) for x in lots_of(places) for y in lots_of(places) if x and y and not set(x) & set(y)]


def webs_up_to(most):
    """All webs over the first places of a world of five, for each number of places up to this."""
    return [Web(FIVE[:many], ties) for many in range(most + 1) for ties in all_ties(FIVE[:many])]


def webs_of_many(places, step):
    """Some webs over a world of more places, with few and with many ties."""
    pairs = list(combinations(places, 2))
    numbers = range(0, 2 ** len(pairs), 2 ** len(pairs) // step + 1)
    return [Web(places, [pair for k, pair in enumerate(pairs) if number >> k & 1]) for number in numbers]


def lies_beside(way, left, right):
    """True if the first place of a way alone is on the left, and its last one alone on the right."""
    return [p for p in way if p in left] == [way[0]] and [p for p in way if p in right] == [way[-1]]


def load(places, told):
    """The load of a told list, by the definition."""
    return sum(len(places) - len(x + z + y) for x, z, y in told)


def full_extensions(places, saying):
    """The extensions of a saying, by the definition, ascending."""
    x, z, y = saying
    return [
        (left, between, right) for left, between, right in triples(places)
        if between == z and set(x) <= set(left) and set(y) <= set(right) and len(left + z + right) == len(places)
    ]


def some_told(places, most):
    """Told lists over a world whose load is at most this, the empty one first."""
    sayings = triples(places)
    many = len(sayings)
    found = [[]] + [[saying] for saying in sayings[::many // 30 + 1]]
    found += [[sayings[k * 7 % many], sayings[(k * 5 + 1) % many]] for k in range(25)]
    found += [[sayings[k * j % many] for j in (3, 11, 1)] for k in range(25)]
    found += [[sayings[(k + j * j) % many] for j in range(k % 10 + 1)] for k in range(20)]
    found += [[sayings[k * 3 % many], sayings[k * 3 % many][::-1]] * 2 for k in range(10)]
    return [told for told in found if load(places, told) <= most]


def lies_within(small, big):
    """True if each tie of one web is a tie of the other."""
    return set(small.ties) <= set(big.ties)


@lru_cache(maxsize=None)
def kept_by(places, ties):
    """The sayings that a web keeps, by the definition."""
    ways = [(way[0], way[-1], set(way)) for way in ways_in(Web(places, ties))]
    return frozenset(
        (x, z, y) for x, z, y in triples(places)
        if not any(start in x and goal in y and not met & set(z) for start, goal, met in ways)
    )


def web_keeps(web, told):
    """True if a web of few places keeps a list of sayings, by the definition."""
    return kept_by(web.places, web.ties) >= set(told)


def nodes_of(tree, path=()):
    """Each leaf and case of a tree in the order of its text, behind its path of 3 for left and 4 for right."""
    found = [(path, tree)]
    if tree[0] == "case":
        found += nodes_of(tree[3], path + (3,)) + nodes_of(tree[4], path + (4,))
    return found


def proves(places, known, goal, tree):
    """True if a shaped tree is a tree of cases for a goal, by the definition."""
    uses = use_set(places)
    held = set(known)
    for use in tree[1]:
        if use not in uses or use[0] == 5 or not set(use[1]) <= held:
            return False
        held.add(use[2][0])
    if tree[0] == "leaf":
        return goal in held
    _, _, use, left, right = tree
    if use not in uses or use[0] != 5 or not set(use[1]) <= held:
        return False
    first, second = use[2]
    return proves(places, held | {first}, goal, left) and proves(places, held | {second}, goal, right)


# Worlds, told lists and goals that follow from them, but by cases only.
HARD = (
    ("abcde", "a | c d | b ; d | a c | e ; d | c | a b ; d e | a | b", "b | | d"),
    ("abcd", "d | a | c ; d | c | b ; b | a | c", "b | | d"),
    ("abcde", "c | d | a ; a e | b | c d ; e | d | a", "a | | e"),
    ("abcde", "b | c d | e ; c | a b | e ; c | d | b", "c | a | e"),
    ("abcde", "b | e | c ; e | a c d | b ; c | d | e", "b | a | c"),
    ("abcde", "a | c | e ; a e | d | c ; d | b | c e", "a c | | e"),
    ("abcde", "a b | c | e ; a c | b | d ; a | b | d e ; a | c | b d", "a | | e"),
    ("abcde", "a d | c | b ; a | b c | d ; b | d e | a", "a | e | b"),
    ("abcde", "a | d | c ; e | b d | a c ; a | c | e", "a | b | e"),
    ("abcde", "e | a d | c ; e | d | a c ; b | c e | d ; a | b e | c", "a | b | c"),
    ("abcde", "c | d | a e ; a | e | b ; a | c | b e", "a | | b e"),
    ("abcde", "b c | a | d ; c d | e | b ; c | b | d", "c | | d"),
    ("abcde", "a | b | d e ; c | d | e ; e | a c | d", "c d | | e"),
    ("abcde", "b d | e | c ; d | c | b ; a | c d | b", "b | a | d"),
    ("abcde", "d e | | a ; e | b | c ; b | d | a c e", "a c | | e"),
    ("abcde", "a b c | d | e ; a | e | c ; e | d | b", "a | b | c"),
)


def saying_of(line):
    """The saying that a line is the written form of."""
    return tuple(tuple(part.split()) for part in line.split("|"))


@lru_cache(maxsize=None)
def derived_trees():
    """Worlds, told lists, goals that follow, and the trees that the program derives for them."""
    found = [(tuple(world), [saying_of(line) for line in told.split(";")], saying_of(goal)) for world, told, goal in HARD]
    found += [(places, [saying[::-1] for saying in told[::-1]], goal[::-1]) for places, told, goal in found]
    places = FIVE[:4]
    for told in some_told(places, 4)[1::8]:
        goals = sorted(frozenset.intersection(*[
            kept_by(places, ties) for ties in all_ties(places) if kept_by(places, ties) >= set(told)
        ]))
        found += [(places, told, goal) for goal in goals[::len(goals) // 2 + 1]]
    return [(places, told, goal, derive(places, told, goal)) for places, told, goal in found]


@lru_cache(maxsize=None)
def all_ties(places):
    """The ties of all webs over a world."""
    pairs = [(a, b) for a in places for b in places if a < b]
    return [tuple(chosen) for many in range(len(pairs) + 1) for chosen in combinations(pairs, many)]


def best_time(call):
    """The seconds that a call takes, the least of seven times, so that a busy machine does not count."""
    found = []
    for _ in range(7):
        start = time.perf_counter()
        call()
        found.append(time.perf_counter() - start)
    return min(found)


class Case(unittest.TestCase):
    """A test case that knows how a call is refused."""

    def refused(self, error, function, *args, **named):
        """The call raises an error of the same class with equal attributes."""
        with self.assertRaises(KeepError) as caught:
            function(*args, **named)
        self.assertIs(type(caught.exception), type(error))
        self.assertEqual(vars(caught.exception), vars(error))

    def same_kind(self, found, wanted):
        """The two are equal, and of the same kinds of values at every depth."""
        self.assertEqual(found, wanted)
        self.assertEqual(repr(found), repr(wanted))

    def fresh_list(self, function, *args, **named):
        """The call returns a list, and changing it does not change a later answer."""
        first = function(*args, **named)
        self.assertIs(type(first), list)
        kept = list(first)
        first.append("changed")
        first.reverse()
        self.assertEqual(function(*args, **named), kept)

    def checks_world(self, call, most):
        """The call checks its argument as a world with this bound."""
        self.refused(BadPlace("A"), call, ("b", "a", "A"))
        self.refused(BadPlace(""), call, TWELVE + ("",))
        self.refused(BadLot(("b", "a")), call, ("b", "a"))
        self.refused(BadLot(("a", "a")), call, ("a", "a"))
        self.refused(BadLot(TWELVE[::-1]), call, TWELVE[::-1])
        self.refused(TooMany(most, most + 1), call, TWELVE[:most + 1])
        self.refused(TooMany(most, 40), call, FORTY)

    def checks_saying(self, call):
        """The call checks its argument as a saying over a, b, c and d, or these and e."""
        for lots, error in NO_LOTS + UNKNOWN:
            self.refused(error, call, lots)
        for lots in NO_SAYINGS:
            self.refused(BadSaying(lots), call, lots)

    def checks_place(self, call):
        """The call checks its argument as a place over a, b, c and d."""
        for text in NO_PLACES:
            self.refused(BadPlace(text), call, text)
        for place in ("x", "aa", "zzzzzz", "abcd"):
            self.refused(Unknown(place), call, place)

    def checks_new_place(self, call):
        """The call checks its argument as a place that is not among a, b, c and d."""
        for text in NO_PLACES:
            self.refused(BadPlace(text), call, text)
        for place in FIVE[:4]:
            self.refused(Repeated(place), call, place)

    def checks_lot(self, call):
        """The call checks its argument as a lot over a, b, c and d, or these and e."""
        for text in NO_PLACES:
            self.refused(BadPlace(text), call, (text,))
            self.refused(BadPlace(text), call, ("x", "b", "a", text, "A"))
        for lot in (("b", "a"), ("a", "a"), ("y", "x"), ("a", "b", "b"), ("a", "c", "b"), TWELVE[::-1]):
            self.refused(BadLot(lot), call, lot)
        for lot, place in ((("x",), "x"), (("a", "x", "y"), "x"), (("aa", "b"), "aa"), (TWELVE, "aa"), (FORTY, "aa")):
            self.refused(Unknown(place), call, lot)

    def checks_sides(self, call):
        """The call checks its two arguments as the sides of a saying over a, b, c and d."""
        self.checks_lot(lambda lot: call(lot, ("A",)))
        self.checks_lot(lambda lot: call((), lot))
        self.checks_lot(lambda lot: call(("a",), lot))
        for left, right in (
            ((), ()), ((), ("a",)), (("a",), ()), (("a",), ("a",)), (("a", "b"), ("b", "c")), (FIVE[:4], FIVE[:4]),
            (("a", "b", "c"), ("c",)), ((), FIVE[:4]),
        ):
            self.refused(BadSaying((left, (), right)), call, left, right)

    def checks_list(self, call, most=10):
        """The call checks its argument as a list of sayings with this bound, over such a world."""
        good, bad = (("a",), ("b",), ("c",)), BAD
        self.refused(TooMany(most, most + 1), call, [bad] * (most + 1))
        self.refused(TooMany(most, most + 1), call, (good,) * (most + 1))
        self.refused(TooMany(most, 700), call, [good] * 700)
        self.checks_saying(lambda lots: call([good, lots, bad]))
        self.checks_saying(lambda lots: call((lots, bad)))

    def checks_rules(self, call, most):
        """The call checks its argument as a tuple of rules, the greatest of which is the bound."""
        for rules, found in (
            ((0,), 0), ((-1, 9), -1), ((6,), 6), ((most + 1,), most + 1), ((1, 1), 1), ((2, 1), 1), ((1, 3, 3), 3),
            ((1, 2, 3, 4, 6, 0), 6), ((999999999,), 999999999), ((1, 2, 3, 2, 9), 2), ((-999999999,), -999999999),
            ((1, 0), 0), ((1, 2, most + 1, 1), most + 1), ((1,) * 700, 1),
        ):
            self.refused(BadRule(found), call, rules)
