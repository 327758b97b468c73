"""Tests of keepsapart.apart: points [3] to [9], [22] and [23] and the interface."""

import unittest
from itertools import permutations

from keepsapart.apart import apart_from, first_failing, is_crossing, is_split, keeps, keeps_all, verdict
from keepsapart.errors import BadLot, BadPlace, BadSaying, Shared, TooMany, Unknown
from keepsapart.sayings import all_sayings, turned
from keepsapart.webs import Web, all_tied, all_webs, no_ties
from keepsapart.ways import reached
from tests.helper import FORTY, NO_PLACES, SEVEN, Case, ways_in

FOUR = ("a", "b", "c", "d")
LINE = Web(FOUR, (("a", "b"), ("b", "c")))
KEPT = (("a",), ("b",), ("c",))
CROSSED = (("a",), ("d",), ("c",))


def crossings(ways, saying):
    """Those of the ways that are crossings of the saying, the shortest and least first."""
    left, between, right = saying
    found = [way for way in ways if way[0] in left and way[-1] in right and not set(way) & set(between)]
    return sorted(found, key=lambda way: (len(way), way))


class DefinitionTest(Case):

    def test_all_webs_and_sayings_of_up_to_four_places(self):
        for many in range(5):
            for web in all_webs(FOUR[:many]):
                ways = ways_in(web)
                for saying in all_sayings(web.places):
                    self.check_saying_in(web, saying, crossings(ways, saying))

    def test_some_webs_of_five_and_seven_places(self):
        five = FOUR + ("e",)
        ring = Web(five, [("a", "c"), ("c", "e"), ("b", "e"), ("b", "d"), ("a", "d")])
        for web in (ring, ring.with_tie("a", "b"), ring.without_tie("a", "c"), no_ties(five), all_tied(five)):
            ways = ways_in(web)
            for saying in all_sayings(five):
                self.check_saying_in(web, saying, crossings(ways, saying))
        large = Web(SEVEN, [(SEVEN[k], SEVEN[k + 2]) for k in range(5)] + [("a", "f")])
        ways = ways_in(large)
        for saying in ((("a", "aa"), (), ("d",)), (("a",), ("b",), ("d",)), (("c", "e"), ("f",), ("a", "aa"))):
            self.check_saying_in(large, saying, crossings(ways, saying))

    def check_saying_in(self, web, saying, found):
        self.assertIs(keeps(web, saying), not found)
        if found:
            self.assertEqual(verdict(web, saying), ("way", found[0]))
            for way in found:
                self.assertIs(is_crossing(web, saying, way), True)
        else:
            near = reached(web, saying[0], missing=saying[1])
            far = tuple(p for p in web.places if p not in near + saying[1])
            self.assertEqual(verdict(web, saying), ("apart", (near, saying[1], far)))
            self.assertIs(is_split(web, saying, (near, saying[1], far)), True)

    def test_splits_and_crossings_are_exactly_what_the_definition_tells(self):
        sayings = all_sayings(FOUR[:3])
        raw_ways = [way for many in range(4) for way in permutations(FOUR[:3], many)]
        for web in all_webs(FOUR[:3]):
            ways = ways_in(web)
            for saying in sayings:
                found = crossings(ways, saying)
                for way in raw_ways:
                    self.assertIs(is_crossing(web, saying, way), way in found)
                for split in sayings:
                    self.assertIs(is_split(web, saying, split), self.splits(web, saying, split))

    def splits(self, web, saying, split):
        return (
            sum(len(lot) for lot in split) == len(web.places) and split[1] == saying[1]
            and set(saying[0]) <= set(split[0]) and set(saying[2]) <= set(split[2])
            and not any((min(a, b), max(a, b)) in web.ties for a in split[0] for b in split[2])
        )


class KeepsTest(Case):

    def test_examples(self):
        self.same_kind(verdict(LINE, KEPT), ("apart", (("a",), ("b",), ("c", "d"))))
        self.same_kind(verdict(LINE, CROSSED), ("way", ("a", "b", "c")))
        self.same_kind(verdict(saying=KEPT, web=LINE), ("apart", (("a",), ("b",), ("c", "d"))))
        self.assertIs(keeps(LINE, KEPT), True)
        self.assertIs(keeps(saying=CROSSED, web=LINE), False)

    def test_the_shortest_crossing_joins_any_places_of_the_two_lots(self):
        web = Web(FOUR + ("e",), [("a", "c"), ("c", "e"), ("b", "c"), ("c", "d")])
        self.same_kind(verdict(web, (("a", "b"), (), ("d", "e"))), ("way", ("a", "c", "d")))
        self.same_kind(verdict(web, (("d", "e"), (), ("a", "b"))), ("way", ("d", "c", "a")))
        self.same_kind(verdict(web.with_tie("b", "e"), (("a", "b"), (), ("d", "e"))), ("way", ("b", "e")))
        self.same_kind(verdict(web.with_tie("b", "e"), (("a", "b"), ("c",), ("d", "e"))), ("way", ("b", "e")))

    def test_a_full_saying_is_its_own_split(self):
        full = (("a",), ("b",), ("c", "d"))
        self.same_kind(verdict(LINE, full), ("apart", full))
        self.same_kind(verdict(LINE, (("a", "d"), ("b",), ("c",))), ("apart", (("a", "d"), ("b",), ("c",))))

    def test_apart_from(self):
        self.same_kind(apart_from(LINE, ("a",)), ("d",))
        self.same_kind(apart_from(LINE, ("a",), missing=("b",)), ("c", "d"))
        self.same_kind(apart_from(missing=("b",), starts=("a", "d"), web=LINE), ("c",))
        self.same_kind(apart_from(LINE, ()), FOUR)
        self.same_kind(apart_from(LINE, (), missing=("a", "c")), ("b", "d"))
        self.same_kind(apart_from(LINE, (), missing=FOUR), ())
        self.same_kind(apart_from(Web(()), ()), ())

    def test_checks_of_apart_from(self):
        self.refused(BadPlace("A"), apart_from, LINE, ("b", "a", "A"), missing=("B",))
        self.refused(BadLot(("b", "a")), apart_from, LINE, ("b", "a"), missing=("B",))
        self.refused(Unknown("x"), apart_from, LINE, ("x",), missing=("B",))
        self.refused(BadPlace("B"), apart_from, LINE, ("a",), missing=("a", "B"))
        self.refused(BadLot(("b", "a")), apart_from, LINE, ("a",), missing=("b", "a"))
        self.refused(Unknown("y"), apart_from, LINE, ("a",), missing=("a", "y"))
        self.refused(Unknown("y"), apart_from, LINE, (), missing=FOUR + ("y",))
        self.refused(Shared("b"), apart_from, LINE, ("b", "c"), missing=("a", "b", "c"))

    def test_the_saying_is_checked_over_the_web(self):
        calls = (
            keeps, verdict, lambda web, saying: is_split(web, saying, ((), (), ())),
            lambda web, saying: is_crossing(web, saying, ()), lambda web, saying: keeps_all(web, [KEPT, saying]),
            lambda web, saying: first_failing(web, (CROSSED, saying, ((), ("A",), ()))),
        )
        for call in calls:
            self.refused(BadPlace("A"), call, LINE, (("A",), ("B",), ()))
            self.refused(BadLot(("b", "a")), call, LINE, (("b", "a"), ("B",), ()))
            self.refused(Unknown("x"), call, LINE, (("a", "x"), ("B",), ()))
            self.refused(BadPlace("B"), call, LINE, ((), ("B",), ("x",)))
            self.refused(Unknown("y"), call, LINE, ((), (), ("y",)))
            self.refused(BadSaying((("a",), ("b",), ())), call, LINE, (("a",), ("b",), ()))
            self.refused(BadSaying((("a",), ("b",), ("b",))), call, LINE, (("a",), ("b",), ("b",)))
            self.refused(Unknown("a"), call, Web(()), KEPT)


class JudgeTest(Case):

    def test_splits(self):
        saying = (("a",), ("b",), ("c",))
        self.assertIs(is_split(LINE, saying, (("a",), ("b",), ("c", "d"))), True)
        self.assertIs(is_split(split=(("a", "d"), ("b",), ("c",)), saying=saying, web=LINE), True)
        for split in (
            (("a",), ("b",), ("c",)), (("a", "c"), ("b",), ("d",)), (("d",), ("b",), ("a", "c")),
            (("c", "d"), ("b",), ("a",)), (("a",), ("b", "d"), ("c",)), (("a",), (), ("b", "c", "d")),
            (("c",), ("b",), ("a", "d")), (("a",), ("d",), ("b", "c")),
        ):
            self.assertIs(is_split(LINE, saying, split), False)
        self.assertIs(is_split(LINE.with_tie("c", "d"), saying, (("a", "d"), ("b",), ("c",))), False)

    def test_raw_splits_that_are_no_full_sayings(self):
        raw = [
            ((), (), ()), ((), ("b",), ("a", "c", "d")), (("a", "c", "d"), ("b",), ()), (("a",), ("b",), ("d", "c")),
            (("a",), ("b",), ("c", "d", "d")), (("a",), ("b",), ("c", "d", "x")), (("a", "d"), ("b",), ("c", "d")),
            (("a",), ("b", "b"), ("c", "d")), (FORTY, ("b",), ("c", "d")), (("a",), ("b",), ("a", "c", "d")),
        ]
        raw += [(("a", text), ("b",), ("c", "d")) for text in NO_PLACES]
        raw += [(("a",), ("b",), ("c", "d", text)) for text in NO_PLACES]
        for split in raw:
            self.assertIs(is_split(LINE, KEPT, split), False)

    def test_crossings(self):
        web = all_tied(FOUR)
        saying = (("a", "b"), (), ("c", "d"))
        for way in (("a", "c"), ("a", "b", "c"), ("b", "c", "d"), ("b", "a", "c", "d"), ("a", "d", "c")):
            self.assertIs(is_crossing(web, saying, way), True)
            self.assertIs(is_crossing(way=way, saying=saying, web=web), True)
            self.assertIs(is_crossing(web, turned(saying), way), False)
            self.assertIs(is_crossing(no_ties(FOUR), saying, way), False)
        self.assertIs(is_crossing(web, (("a",), ("b",), ("c",)), ("a", "d", "c")), True)
        self.assertIs(is_crossing(web, (("a",), ("b",), ("c",)), ("a", "b", "c")), False)

    def test_raw_ways_that_are_no_crossings(self):
        web = all_tied(FOUR)
        raw = [
            (), ("a",), ("c",), ("a", "b"), ("c", "a"), ("a", "x", "c"), ("x", "c"), ("a", "x"), ("a", "a", "c"),
            ("a", "d", "a", "c"), ("a", "c", "c"), FORTY,
        ]
        for way in raw + [("a", text, "c") for text in NO_PLACES]:
            self.assertIs(is_crossing(web, (("a",), (), ("c",)), way), False)


class ToldTest(Case):

    def test_keeps_all_and_first_failing(self):
        for told, wanted in (
            ([], None), ((), None), ([KEPT], None), ([KEPT] * 10, None), ([CROSSED], 0), ((KEPT, CROSSED), 1),
            ([KEPT, turned(KEPT), CROSSED, CROSSED], 2), ([KEPT] * 9 + [turned(CROSSED)], 9),
        ):
            self.same_kind(first_failing(LINE, told), wanted)
            self.same_kind(first_failing(told=told, web=LINE), wanted)
            self.assertIs(keeps_all(LINE, told), wanted is None)
            self.assertIs(keeps_all(told=told, web=LINE), wanted is None)

    def test_every_web_keeps_the_empty_list(self):
        for web in all_webs(FOUR[:3]) + [Web(()), all_tied(SEVEN)]:
            self.assertIs(keeps_all(web, []), True)
            self.assertIsNone(first_failing(web, ()))

    def test_a_told_list_has_at_most_ten_items(self):
        bad = ((), ("A",), ())
        for function in (keeps_all, first_failing):
            self.refused(TooMany(10, 11), function, LINE, [CROSSED] * 11)
            self.refused(TooMany(10, 11), function, LINE, [bad] * 11)
            self.refused(TooMany(10, 110), function, LINE, all_sayings(FOUR))
            self.refused(BadPlace("A"), function, LINE, [CROSSED, bad])

    def test_arguments_stay_as_they_are(self):
        told = [KEPT, CROSSED]
        for _ in range(2):
            self.assertEqual(first_failing(LINE, told), 1)
            self.assertIs(keeps_all(LINE, told), False)
            self.assertEqual(told, [KEPT, CROSSED])
            self.assertEqual(LINE, Web(FOUR, (("a", "b"), ("b", "c"))))


if __name__ == "__main__":
    unittest.main()
