"""Tests of keepsapart.walls: points [3] to [9] and [54] to [56] and the interface."""

import unittest
from itertools import product

from keepsapart.errors import BadSaying, NotKept
from keepsapart.walls import is_least_wall, is_wall_paper, least_walls, shrunk_wall, wall_ways
from keepsapart.webs import Web, all_tied, no_ties
from tests.helper import (
    FIVE, FORTY, NO_PLACES, SEVEN, Case, kept_by, lots_of, sides_of, triples, ways_in, webs_of_many, webs_up_to,
)

FOUR = FIVE[:4]
# From a to b leads a way through c, and from there two ways, through d and through e.
FORK = Web(FIVE, [("a", "c"), ("c", "d"), ("c", "e"), ("b", "d"), ("b", "e")])
LINE = Web(FOUR, [("a", "b"), ("b", "c"), ("c", "d")])


def walls(web, left, right):
    """All walls between two lots, by the definition, ascending."""
    return [lot for lot in lots_of(web.places) if (left, lot, right) in kept_by(web.places, web.ties)]


def least_by_definition(web, left, right):
    """The walls that contain no other wall."""
    found = walls(web, left, right)
    return [wall for wall in found if not any(set(other) < set(wall) for other in found)]


def wall_ways_by_definition(web, saying):
    """All wall ways for each place between, the shortest first."""
    left, between, right = saying
    ways = [way for way in ways_in(web) if way[0] in left and way[-1] in right]
    found = [[way for way in ways if not set(way) & set(between) - {place}] for place in between]
    return [sorted(row, key=lambda way: (len(way), way)) for row in found]


def shrunk_by_definition(web, saying):
    """The shrunk wall of a saying that the web keeps, step by step."""
    left, between, right = saying
    ties = set(web.ties) | {(b, a) for a, b in web.ties}
    for starts in (left, right):
        near = {way[-1] for way in ways_in(web) if way[0] in starts and not set(way) & set(between)}
        between = tuple(place for place in between if any((place, other) in ties for other in near))
    return between


class LeastWallsTest(Case):

    def test_least_walls_are_those_of_the_definition(self):
        for web in webs_up_to(4) + webs_of_many(FIVE, 30):
            for left, right in sides_of(web.places):
                wanted = least_by_definition(web, left, right)
                self.same_kind(least_walls(web, left, right), wanted)
                for lot in lots_of([p for p in web.places if p not in left + right]):
                    self.assertIs(is_least_wall(web, (left, lot, right)), lot in wanted)

    def test_a_world_of_seven_places(self):
        first, *inner, last = SEVEN
        full = Web(SEVEN, [(first, p) for p in inner] + [(p, last) for p in inner])
        self.same_kind(least_walls(full, (first,), (last,)), [tuple(inner)])
        line = Web(SEVEN, list(zip(SEVEN, SEVEN[1:])))
        self.same_kind(least_walls(line, (first,), (last,)), [(p,) for p in inner])
        self.same_kind(least_walls(line, SEVEN[:3], SEVEN[4:]), [SEVEN[3:4]])
        self.same_kind(least_walls(no_ties(SEVEN), SEVEN[:2], SEVEN[3:]), [()])
        for web in webs_of_many(SEVEN, 12):
            found = least_walls(web, (first,), (last,))
            self.assertEqual(found, sorted(set(found)))
            self.assertEqual(found, least_by_definition(web, (first,), (last,)))

    def test_least_walls_of_different_sizes(self):
        self.same_kind(least_walls(FORK, ("a",), ("b",)), [("c",), ("d", "e")])
        self.same_kind(least_walls(right=("a",), left=("b",), web=FORK), [("c",), ("d", "e")])
        self.assertIs(is_least_wall(FORK, (("a",), ("d", "e"), ("b",))), True)
        self.assertIs(is_least_wall(saying=(("a",), ("c", "d"), ("b",)), web=FORK), False)
        self.assertIs(is_least_wall(FORK, (("a",), ("d",), ("b",))), False)
        self.assertIs(is_least_wall(FORK, (("a",), (), ("b",))), False)

    def test_tied_sides_have_no_wall_and_sides_apart_the_empty_one(self):
        self.same_kind(least_walls(LINE, ("a",), ("b",)), [])
        self.same_kind(least_walls(LINE, ("a", "d"), ("c",)), [])
        self.same_kind(least_walls(LINE.without_tie("b", "c"), ("a",), ("c", "d")), [()])
        self.assertIs(is_least_wall(no_ties(FOUR), (("a",), (), ("b", "c"))), True)
        self.assertIs(is_least_wall(no_ties(FOUR), (("a",), ("d",), ("b", "c"))), False)

    def test_checks(self):
        self.checks_sides(lambda left, right: least_walls(LINE, left, right))
        self.checks_saying(lambda saying: is_least_wall(LINE, saying))
        self.refused(BadSaying(((), (), ())), least_walls, Web(()), (), ())
        self.fresh_list(least_walls, FORK, ("a",), ("b",))
        self.fresh_list(least_walls, LINE, ("a",), ("b",))


class WallWaysTest(Case):

    def test_wall_ways_are_the_shortest_of_the_definition(self):
        for web in webs_up_to(4) + webs_of_many(FIVE, 10):
            for saying in sorted(kept_by(web.places, web.ties)):
                if saying[1] in least_by_definition(web, saying[0], saying[2]):
                    wanted = [row[0] for row in wall_ways_by_definition(web, saying)]
                    self.same_kind(wall_ways(web, saying), wanted)
                    self.assertIs(is_wall_paper(web, saying, wanted), True)
                else:
                    self.assertIsNone(wall_ways(web, saying))

    def test_examples(self):
        self.same_kind(wall_ways(FORK, (("a",), ("d", "e"), ("b",))), [("a", "c", "d", "b"), ("a", "c", "e", "b")])
        self.same_kind(wall_ways(saying=(("b",), ("c",), ("a",)), web=FORK), [("b", "d", "c", "a")])
        self.assertIsNone(wall_ways(FORK, (("a",), ("c", "d"), ("b",))))
        web = Web(FIVE, [("a", "d"), ("b", "d"), ("c", "d"), ("d", "e")])
        self.same_kind(wall_ways(web, (("b", "c"), ("d",), ("a", "e"))), [("b", "d", "a")])
        self.same_kind(wall_ways(web, (("a", "e"), ("d",), ("b", "c"))), [("a", "d", "b")])

    def test_the_empty_wall_has_no_ways(self):
        saying = (("a",), (), ("b",))
        self.same_kind(wall_ways(no_ties(FOUR), saying), [])
        self.assertIs(is_wall_paper(no_ties(FOUR), saying, []), True)
        self.assertIs(is_wall_paper(no_ties(FOUR), saying, ()), True)
        self.assertIs(is_wall_paper(no_ties(FOUR), saying, [()]), False)
        self.assertIs(is_wall_paper(LINE, saying, []), False)
        self.fresh_list(wall_ways, no_ties(FOUR), saying)
        self.fresh_list(wall_ways, FORK, (("a",), ("d", "e"), ("b",)))

    def test_checks(self):
        for function in (wall_ways, shrunk_wall):
            self.checks_saying(lambda saying: function(LINE, saying))
            for saying in triples(FOUR):
                if saying not in kept_by(FOUR, LINE.ties):
                    self.refused(NotKept(saying), function, LINE, saying)
            self.refused(NotKept((("a",), (), ("b",))), function, all_tied(SEVEN), (("a",), (), ("b",)))


class WallPaperTest(Case):

    def test_the_judge_is_right_on_all_rows_of_ways_over_small_webs(self):
        rows = [()] + [way for many in range(4) for way in product(FIVE[:3], repeat=many)]
        for web in webs_up_to(3):
            for saying in triples(web.places):
                kept = saying in kept_by(web.places, web.ties)
                right = wall_ways_by_definition(web, saying)
                for way in rows:
                    wanted = kept and len(right) == 1 and way in right[0]
                    self.assertIs(is_wall_paper(web, saying, [way]), wanted)
                self.assertIs(is_wall_paper(web, saying, []), kept and right == [])

    def test_the_judge_looks_at_each_way_at_its_index(self):
        for web in webs_up_to(4)[-40:] + webs_of_many(FIVE, 12):
            for saying in sorted(kept_by(web.places, web.ties)):
                right = wall_ways_by_definition(web, saying)
                ways = [row[-1] if row else (saying[0][0], saying[2][0]) for row in right]
                wanted = all(right)
                self.assertIs(is_wall_paper(web, saying, ways), wanted)
                self.assertIs(is_wall_paper(web, saying, tuple(ways)), wanted)
                for other in (ways[::-1], ways[:-1], ways + ways[:1], ways[1:] + ways[:1]):
                    fits = len(other) == len(right) and all(way in row for way, row in zip(other, right))
                    self.assertIs(is_wall_paper(web, saying, other), fits)

    def test_ways_may_have_further_places_of_both_sides(self):
        web = Web(FIVE, [("a", "b"), ("b", "c"), ("c", "d"), ("d", "e")])
        saying = (("a", "b"), ("c",), ("d", "e"))
        for way in (("a", "b", "c", "d", "e"), ("b", "c", "d"), ("a", "b", "c", "d")):
            self.assertIs(is_wall_paper(web, saying, [way]), True)
            self.assertIs(is_wall_paper(ways=[way], saying=saying, web=web), True)
        for way in (("c", "d"), ("b", "c"), ("e", "d", "c", "b"), ("a", "c", "d"), ("a", "b", "a", "b", "c", "d")):
            self.assertIs(is_wall_paper(web, saying, [way]), False)

    def test_raw_ways_raise_nothing(self):
        saying = (("a",), ("b",), ("c", "d"))
        self.assertIs(is_wall_paper(LINE, saying, [("a", "b", "c")]), True)
        for way in [(), FORTY, ("x",), ("a", "x", "c"), ("a", "a", "b", "c")] + [("a", text) for text in NO_PLACES]:
            self.assertIs(is_wall_paper(LINE, saying, [way]), False)
            self.assertIs(is_wall_paper(LINE, saying, [("a", "b", "c"), way]), False)
            self.assertIs(is_wall_paper(LINE, saying, [way] * 700), False)
            self.assertIs(is_wall_paper(LINE, (("a",), (), ("b",)), [way]), False)
        self.checks_saying(lambda lots: is_wall_paper(LINE, lots, [("A",)]))


class ShrunkTest(Case):

    def test_shrinking_gives_what_the_definition_tells(self):
        for web in webs_up_to(4) + webs_of_many(FIVE, 12):
            for saying in sorted(kept_by(web.places, web.ties)):
                found = shrunk_wall(web, saying)
                self.same_kind(found, shrunk_by_definition(web, saying))
                self.assertIn(found, least_by_definition(web, saying[0], saying[2]))
                self.assertLessEqual(set(found), set(saying[1]))

    def test_the_turned_saying_may_have_another_shrunk_wall(self):
        web = Web(SEVEN[:4], [("a", "aa"), ("aa", "b"), ("b", "c")])
        self.same_kind(shrunk_wall(web, (("a",), ("aa", "b"), ("c",))), ("aa",))
        self.same_kind(shrunk_wall(saying=(("c",), ("aa", "b"), ("a",)), web=web), ("b",))
        self.same_kind(shrunk_wall(FORK, (("a",), ("c", "d", "e"), ("b",))), ("c",))
        self.same_kind(shrunk_wall(FORK, (("b",), ("c", "d", "e"), ("a",))), ("d", "e"))
        self.same_kind(shrunk_wall(no_ties(FOUR), (("a",), ("b", "c"), ("d",))), ())

    def test_a_world_of_seven_places(self):
        for web in webs_of_many(SEVEN, 40):
            saying = (SEVEN[:1], SEVEN[1:6], SEVEN[6:])
            if not web.tied(SEVEN[0], SEVEN[6]):
                self.assertIs(is_least_wall(web, (SEVEN[:1], shrunk_wall(web, saying), SEVEN[6:])), True)


if __name__ == "__main__":
    unittest.main()
