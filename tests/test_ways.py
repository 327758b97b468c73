"""Tests of keepsapart.ways: points [3] to [9] and [19] to [21] and the interface."""

import unittest
from itertools import permutations

from keepsapart.errors import BadLot, BadPlace, Shared, Unknown
from keepsapart.places import sublots
from keepsapart.webs import Web, all_tied, all_webs
from keepsapart.ways import all_ways, distance, is_way, lumps_of, reached, shortest_way
from tests.helper import FORTY, NO_PLACES, SEVEN, Case, ways_in

FOUR = ("a", "b", "c", "d")
RING = Web(FOUR, [("a", "b"), ("b", "c"), ("c", "d"), ("a", "d")])
LINE = Web(FOUR, [("a", "b"), ("b", "c"), ("c", "d")])

# Seven places: a ring of six and, tied to none of them, the place g.
LARGE = Web(
    ("a", "b", "c", "d", "e", "f", "g"),
    [("a", "c"), ("b", "c"), ("b", "d"), ("d", "f"), ("e", "f"), ("a", "e")],
)


def some_webs():
    """Webs to try everything on: all over up to 4 places, and two over 7 places."""
    return [web for many in range(5) for web in all_webs(FOUR[:many])] + [LARGE, Web(SEVEN)]


class DefinitionTest(Case):

    def test_ways_between_two_places(self):
        for web in some_webs():
            ways = ways_in(web)
            for missing in sublots(web.places)[:20]:
                free = [way for way in ways if not set(way) & set(missing)]
                for start in web.places:
                    for goal in web.places:
                        if start not in missing and goal not in missing:
                            wanted = [way for way in free if way[0] == start and way[-1] == goal]
                            self.check_pair(web, start, goal, missing, wanted)

    def check_pair(self, web, start, goal, missing, wanted):
        shortest = min(wanted, key=lambda way: (len(way), way), default=None)
        self.assertEqual(all_ways(web, start, goal, missing=missing), wanted)
        self.assertEqual(shortest_way(web, start, goal, missing=missing), shortest)
        steps = None if shortest is None else len(shortest) - 1
        self.assertEqual(distance(web, start, goal, missing=missing), steps)

    def test_places_reached_and_lumps(self):
        for web in some_webs():
            ways = ways_in(web)
            for missing in sublots(web.places)[:20]:
                free = [way for way in ways if not set(way) & set(missing)]
                lumps = set()
                for starts in sublots(tuple(p for p in web.places if p not in missing)):
                    near = tuple(sorted({way[-1] for way in free if way[0] in starts}))
                    self.assertEqual(reached(web, starts, missing=missing), near)
                    if len(starts) == 1:
                        lumps.add(near)
                self.assertEqual(lumps_of(web, missing=missing), sorted(lumps))

    def test_is_way_says_which_are_ways(self):
        for web in [RING, LINE, Web(FOUR), all_tied(FOUR)] + all_webs(FOUR[:3]):
            ways = ways_in(web)
            for missing in sublots(web.places):
                for start in web.places:
                    for goal in web.places:
                        for many in range(len(web.places) + 1):
                            for way in permutations(web.places, many):
                                wanted = (
                                    way in ways and way[0] == start and way[-1] == goal
                                    and not set(way) & set(missing)
                                )
                                self.assertIs(is_way(web, way, start, goal, missing=missing), wanted)


class ReachedTest(Case):

    def test_reached(self):
        self.same_kind(reached(LINE, ("a",)), FOUR)
        self.same_kind(reached(LINE, ("a",), missing=("c",)), ("a", "b"))
        self.same_kind(reached(LINE, ("a", "d"), missing=("b",)), ("a", "c", "d"))
        self.same_kind(reached(missing=("b", "d"), starts=("c",), web=LINE), ("c",))
        self.same_kind(reached(LARGE, ("g",)), ("g",))

    def test_from_no_place_none_is_reached(self):
        self.same_kind(reached(LINE, ()), ())
        self.same_kind(reached(LINE, (), missing=FOUR), ())
        self.same_kind(reached(Web(()), ()), ())

    def test_checks_of_reached(self):
        self.refused(BadPlace("A"), reached, LINE, ("b", "a", "A"), missing=("B",))
        self.refused(BadLot(("b", "a")), reached, LINE, ("b", "a"), missing=("B",))
        self.refused(Unknown("x"), reached, LINE, ("a", "x", "y"), missing=("B",))
        self.refused(BadPlace("B"), reached, LINE, ("a",), missing=("a", "B"))
        self.refused(BadLot(("b", "a")), reached, LINE, ("a",), missing=("b", "a"))
        self.refused(Unknown("y"), reached, LINE, ("a",), missing=("a", "y"))
        self.refused(Shared("b"), reached, LINE, ("a", "b", "c"), missing=("b", "c", "d"))
        self.refused(Shared("d"), reached, missing=("d",), starts=FOUR, web=LINE)

    def test_lumps(self):
        self.same_kind(lumps_of(LARGE), [("a", "b", "c", "d", "e", "f"), ("g",)])
        self.same_kind(lumps_of(web=LARGE, missing=("c", "f")), [("a", "e"), ("b", "d"), ("g",)])
        self.same_kind(lumps_of(RING, missing=("b", "d")), [("a",), ("c",)])

    def test_no_place_no_lump(self):
        self.same_kind(lumps_of(Web(())), [])
        self.same_kind(lumps_of(LINE, missing=FOUR), [])
        self.fresh_list(lumps_of, LINE, missing=("b",))
        self.fresh_list(lumps_of, Web(()))

    def test_checks_of_lumps(self):
        self.refused(BadPlace("A"), lumps_of, LINE, missing=("x", "a", "A"))
        self.refused(BadLot(("x", "a")), lumps_of, LINE, missing=("x", "a"))
        self.refused(Unknown("x"), lumps_of, LINE, missing=("a", "x", "y"))
        self.refused(Unknown("x"), lumps_of, LINE, missing=FOUR + ("x",))
        self.refused(Unknown("x"), lumps_of, Web(()), missing=("x",))


class WayTest(Case):

    def test_the_least_of_several_shortest_ways(self):
        self.same_kind(shortest_way(RING, "a", "c"), ("a", "b", "c"))
        self.same_kind(shortest_way(RING, "c", "a"), ("c", "b", "a"))
        self.same_kind(shortest_way(RING, "a", "c", missing=("b",)), ("a", "d", "c"))
        self.same_kind(shortest_way(LARGE, "a", "d"), ("a", "c", "b", "d"))
        self.same_kind(shortest_way(LARGE, "d", "a"), ("d", "b", "c", "a"))
        self.same_kind(shortest_way(goal="f", start="c", web=LARGE, missing=("g",)), ("c", "a", "e", "f"))

    def test_distance(self):
        self.same_kind(distance(RING, "a", "c"), 2)
        self.same_kind(distance(goal="d", start="a", web=LINE), 3)
        self.same_kind(distance(LINE, "a", "b", missing=("c", "d")), 1)
        self.assertIsNone(distance(LINE, "a", "c", missing=("b",)))

    def test_a_start_that_is_the_goal(self):
        for web in (LINE, RING, all_tied(FOUR)):
            self.same_kind(shortest_way(web, "b", "b"), ("b",))
            self.same_kind(distance(web, "b", "b", missing=("a", "c", "d")), 0)
            self.same_kind(all_ways(web, "b", "b"), [("b",)])
            self.assertIs(is_way(web, ("b",), "b", "b"), True)
            self.assertIs(is_way(web, ("b", "a", "b"), "b", "b"), False)

    def test_no_way(self):
        self.assertIsNone(shortest_way(LARGE, "a", "g"))
        self.assertIsNone(distance(LARGE, "a", "g"))
        self.assertIsNone(shortest_way(RING, "a", "c", missing=("b", "d")))
        self.same_kind(all_ways(LARGE, "a", "g"), [])
        self.same_kind(all_ways(RING, "a", "c", missing=("b", "d")), [])

    def test_all_ways(self):
        self.same_kind(all_ways(RING, "a", "b"), [("a", "b"), ("a", "d", "c", "b")])
        self.same_kind(all_ways(RING, "a", "b", missing=("d",)), [("a", "b")])
        self.same_kind(all_ways(goal="c", start="a", web=RING), [("a", "b", "c"), ("a", "d", "c")])
        self.assertEqual(len(all_ways(all_tied(SEVEN), "a", "f")), 326)
        self.assertEqual(all_ways(LARGE, "b", "e"), [way for way in ways_in(LARGE) if way[0] + way[-1] == "be"])
        self.fresh_list(all_ways, RING, "a", "b")
        self.fresh_list(all_ways, LARGE, "a", "g")

    def test_checks_of_the_functions_that_find_ways(self):
        for function in (shortest_way, distance, all_ways):
            self.refused(BadPlace("A"), function, LINE, "A", "B", missing=("C",))
            self.refused(Unknown("x"), function, LINE, "x", "B", missing=("C",))
            self.refused(BadPlace("B"), function, LINE, "a", "B", missing=("C",))
            self.refused(Unknown("y"), function, LINE, "a", "y", missing=("C",))
            self.refused(BadPlace("C"), function, LINE, "a", "b", missing=("b", "a", "C"))
            self.refused(BadLot(("b", "a")), function, LINE, "a", "b", missing=("b", "a"))
            self.refused(Unknown("z"), function, LINE, "a", "b", missing=("a", "b", "z"))
            self.refused(Shared("b"), function, LINE, "b", "a", missing=("a", "b"))
            self.refused(Shared("b"), function, LINE, "a", "b", missing=("b", "c"))
            self.refused(Shared("a"), function, LINE, "a", "a", missing=("a",))
            self.refused(Shared("a"), function, web=LINE, missing=("a",), goal="b", start="a")

    def test_raw_ways(self):
        raw = [
            (), ("a", "a"), ("a", "b", "a"), ("a", "x"), ("x", "a"), ("x",), ("a", "c"), ("a", "b", "b", "c"),
            ("a", "b", "x", "c"), ("b", "c"), ("a", "b"), ("c", "b", "a"), ("a", "b", "c", "d"), FORTY,
        ]
        for way in raw + [("a", text, "c") for text in NO_PLACES] + [(text,) for text in NO_PLACES]:
            self.assertIs(is_way(LINE, way, "a", "c"), False)
            self.assertIs(is_way(all_tied(FOUR), way, "d", "d"), False)
        self.assertIs(is_way(LINE, ("a", "b", "c"), "a", "c"), True)
        self.assertIs(is_way(goal="c", start="a", way=("a", "b", "c"), web=LINE, missing=("d",)), True)

    def test_judging_raises_no_shared(self):
        self.assertIs(is_way(LINE, ("a", "b"), "a", "b", missing=("a",)), False)
        self.assertIs(is_way(LINE, ("a", "b"), "a", "b", missing=("b",)), False)
        self.assertIs(is_way(LINE, ("a",), "a", "a", missing=("a",)), False)
        self.assertIs(is_way(LINE, ("a", "b", "c"), "a", "c", missing=("b",)), False)

    def test_judging_checks_the_other_arguments(self):
        for way in ((), ("a", "b"), ("A",)):
            self.refused(BadPlace("A"), is_way, LINE, way, "A", "B", missing=("C",))
            self.refused(Unknown("x"), is_way, LINE, way, "x", "B", missing=("C",))
            self.refused(BadPlace("B"), is_way, LINE, way, "a", "B", missing=("C",))
            self.refused(Unknown("y"), is_way, LINE, way, "a", "y", missing=("C",))
            self.refused(BadPlace("C"), is_way, LINE, way, "a", "b", missing=("b", "a", "C"))
            self.refused(BadLot(("b", "a")), is_way, LINE, way, "a", "b", missing=("b", "a"))
            self.refused(Unknown("z"), is_way, LINE, way, "a", "b", missing=("a", "z"))

    def test_the_web_without_places(self):
        self.refused(Unknown("a"), shortest_way, Web(()), "a", "a")
        self.refused(Unknown("a"), is_way, Web(()), (), "a", "a")
        self.refused(Unknown("a"), reached, Web(()), ("a",))


if __name__ == "__main__":
    unittest.main()
