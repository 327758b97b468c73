"""Tests of keepsapart.parting: points [3] to [9], [57] and [58] and the interface."""

import unittest
from itertools import combinations, permutations

from keepsapart.errors import BadLot, BadSaying, Unknown
from keepsapart.parting import blocks_of, close, cut_pair, cut_places, is_parting, parting_of
from keepsapart.webs import Web, all_tied, no_ties
from tests.helper import (
    FIVE, FORTY, NO_PLACES, SEVEN, TWELVE, Case, kept_by, lies_beside, lots_of, sides_of, ways_in, webs_of_many,
    webs_up_to,
)

THREE = FIVE[:3]
FOUR = FIVE[:4]
LINE = Web(FOUR, [("a", "b"), ("b", "c"), ("c", "d")])
# Two ways from a to e, b and c on one and d on the other, with a tie between them that leads astray.
LADDER = Web(FIVE, [("a", "b"), ("b", "c"), ("c", "e"), ("a", "d"), ("d", "e"), ("b", "d")])


def walls(web, left, right):
    """All walls between two lots, by the definition, ascending."""
    return [lot for lot in lots_of(web.places) if (left, lot, right) in kept_by(web.places, web.ties)]


def beside_each_other(web, left, right, ways):
    """True if these are ways beside each other, by the definition."""
    found = set(ways_in(web))
    inner = [set(way) - set(left + right) for way in ways]
    return (
        all(way in found and lies_beside(way, left, right) for way in ways)
        and not any(one & other for one, other in combinations(inner, 2))
    )


def apart_in(web, a, b, lot):
    """True if the web keeps the two places apart by the lot, by the definition."""
    return ((a,), lot, (b,)) in kept_by(web.places, web.ties)


def close_by_definition(web, a, b):
    lots = [()] + [(p,) for p in web.places if p not in (a, b)]
    return not any(apart_in(web, a, b, lot) for lot in lots)


def blocks_by_definition(web):
    near = {(a, b) for a, b in combinations(web.places, 2) if close_by_definition(web, a, b)}
    lots = [lot for lot in lots_of(web.places) if lot and set(combinations(lot, 2)) <= near]
    return [lot for lot in lots if not any(set(lot) < set(other) for other in lots)]


def webs():
    return webs_up_to(4) + webs_of_many(FIVE, 40)


class PartingTest(Case):

    def check_parting(self, web, left, right):
        found = parting_of(web, left, right)
        lots = walls(web, left, right)
        if not lots:
            self.assertIsNone(found)
            return
        wall, ways = found
        self.same_kind(wall, min(lots, key=lambda lot: (len(lot), lot)))
        self.assertIs(type(found), tuple)
        self.assertIs(type(ways), list)
        self.assertEqual(len(ways), len(wall))
        self.assertTrue(all(type(way) is tuple for way in ways))
        self.assertTrue(beside_each_other(web, left, right, ways))
        self.assertIs(is_parting(web, left, right, wall, ways), True)

    def test_partings_of_all_small_webs(self):
        for web in webs():
            for left, right in sides_of(web.places):
                self.check_parting(web, left, right)
                self.assertIs(parting_of(web, left, right) is None, any(
                    web.tied(a, b) for a in left for b in right
                ))

    def test_partings_of_seven_places(self):
        for web in webs_of_many(SEVEN, 30) + [all_tied(SEVEN).without_tie("a", "f")]:
            self.check_parting(web, ("a",), ("f",))
            self.check_parting(web, ("a", "b"), ("e", "f"))
        wall, ways = parting_of(all_tied(SEVEN).without_tie("a", "f"), ("a",), ("f",))
        self.same_kind((wall, sorted(ways)), (SEVEN[1:6], [("a", place, "f") for place in SEVEN[1:6]]))

    def test_examples(self):
        self.same_kind(parting_of(LINE, ("a",), ("d",)), (("b",), [("a", "b", "c", "d")]))
        self.same_kind(parting_of(right=("a",), left=("d",), web=LINE), (("b",), [("d", "c", "b", "a")]))
        self.assertIsNone(parting_of(LINE, ("a", "b"), ("c", "d")))
        self.same_kind(parting_of(no_ties(FOUR), ("a", "b"), ("c",)), ((), []))
        wall, ways = parting_of(LADDER, ("a",), ("e",))
        self.same_kind((wall, sorted(ways)), (("b", "d"), [("a", "b", "c", "e"), ("a", "d", "e")]))

    def test_ways_beside_each_other_may_share_places_of_the_sides(self):
        star = Web(FIVE, [("a", "c"), ("a", "d"), ("b", "c"), ("b", "d"), ("c", "e"), ("d", "e")])
        wall, ways = parting_of(star, ("a", "b"), ("e",))
        self.assertEqual((wall, len(ways)), (("c", "d"), 2))
        self.assertIs(is_parting(star, ("a", "b"), ("e",), wall, [("a", "c", "e"), ("a", "d", "e")]), True)
        self.assertIs(is_parting(star, ("a", "b"), ("e",), wall, [("b", "d", "e"), ("a", "c", "e")]), True)
        self.assertIs(is_parting(star, ("a", "b"), ("e",), wall, [("b", "c", "e"), ("a", "c", "e")]), False)
        self.assertIs(is_parting(star, ("a", "b"), ("e",), wall, [("a", "c", "b", "d", "e")] * 2), False)

    def test_checks(self):
        self.checks_sides(lambda left, right: parting_of(LINE, left, right))
        self.refused(BadSaying(((), (), ())), parting_of, Web(()), (), ())
        self.refused(Unknown("a"), parting_of, Web(()), ("a",), ("b",))

    def test_a_returned_list_is_new(self):
        _, ways = parting_of(LADDER, ("a",), ("e",))
        kept = list(ways)
        ways.clear()
        self.assertEqual(parting_of(LADDER, ("a",), ("e",))[1], kept)


class JudgeTest(Case):

    def test_walls_and_ways_over_small_webs(self):
        rows = [()] + [way for many in range(1, 4) for way in permutations(THREE, many)]
        for web in webs_up_to(3)[4:]:
            for left, right in sides_of(web.places):
                for lot in lots_of(web.places):
                    is_wall = lot in walls(web, left, right)
                    for ways in [[]] + [[way] for way in rows] + [[way, way] for way in rows]:
                        wanted = is_wall and len(ways) == len(lot) and beside_each_other(web, left, right, ways)
                        self.assertIs(is_parting(web, left, right, lot, ways), wanted)
                        self.assertIs(is_parting(web, left, right, lot, tuple(ways)), wanted)

    def test_pairs_of_ways(self):
        for web in webs_up_to(4)[-30:] + [LADDER]:
            ends = (web.places[:1], web.places[-1:])
            ways = [way for way in ways_in(web) if way[0] in ends[0] and way[-1] in ends[1]]
            for pair in [(one, other) for one in ways for other in ways]:
                for lot in [lot for lot in lots_of(web.places) if len(lot) == 2]:
                    wanted = lot in walls(web, *ends) and beside_each_other(web, *ends, pair)
                    self.assertIs(is_parting(web, *ends, lot, pair), wanted)

    def test_the_wall_need_not_be_the_first_one(self):
        for place in ("b", "c"):
            self.assertIs(is_parting(LINE, ("a",), ("d",), (place,), [("a", "b", "c", "d")]), True)
        self.assertIs(is_parting(ways=[("a", "b", "c", "d")], wall=("c",), right=("d",), left=("a",), web=LINE), True)
        self.assertIs(is_parting(LINE, ("a",), ("d",), ("b", "c"), [("a", "b", "c", "d")]), False)
        self.assertIs(is_parting(LINE, ("a",), ("d",), ("b", "c"), [("a", "b", "c", "d")] * 2), False)
        self.assertIs(is_parting(no_ties(FOUR), ("a",), ("d",), (), []), True)
        self.assertIs(is_parting(LINE, ("a",), ("d",), (), []), False)

    def test_ways_with_further_places_of_the_sides(self):
        web = LINE.with_tie("a", "c")
        self.assertIs(is_parting(LINE, ("a",), ("c", "d"), ("b",), [("a", "b", "c")]), True)
        self.assertIs(is_parting(LINE, ("a",), ("c", "d"), ("b",), [("a", "b", "c", "d")]), False)
        self.assertIs(is_parting(LINE, ("a", "b"), ("d",), ("c",), [("a", "b", "c", "d")]), False)
        self.assertIs(is_parting(web, ("a", "b"), ("d",), ("c",), [("a", "c", "d")]), True)
        self.assertIs(is_parting(web, ("a", "b"), ("d",), ("c",), [("d", "c", "a")]), False)

    def test_raw_walls_and_ways_raise_nothing(self):
        good = [("a", "b", "c", "d")]
        for wall in [
            ("a",), ("d",), ("x",), ("b", "b"), ("c", "b"), ("b", "x"), FORTY, TWELVE, ("a", "b"), (), ("b", "d"),
        ] + [(text,) for text in NO_PLACES] + [("b", text) for text in NO_PLACES]:
            self.assertIs(is_parting(LINE, ("a",), ("d",), wall, good), False)
            self.assertIs(is_parting(LINE, ("a",), ("d",), wall, good * len(wall)), False)
            self.assertIs(is_parting(LINE, ("a",), ("d",), wall, good * 700), False)
        for way in (
            (), ("a",), ("d",), ("a", "d"), ("a", "b", "b", "c", "d"), ("a", "x", "d"), FORTY, ("d", "c", "b", "a"),
        ):
            self.assertIs(is_parting(LINE, ("a",), ("d",), ("b",), [way]), False)
        for text in NO_PLACES:
            self.assertIs(is_parting(LINE, ("a",), ("d",), ("b",), [("a", text, "d")]), False)

    def test_checks_come_before_the_judged(self):
        for wall, ways in (((), []), (("A", "A"), [("A",)]), (FORTY, [FORTY] * 700)):
            self.checks_sides(lambda left, right: is_parting(LINE, left, right, wall, ways))


class CutTest(Case):

    def test_cut_places_and_pairs_are_those_of_the_definition(self):
        for web in webs():
            wanted = []
            for place in web.places:
                pairs = combinations([p for p in web.places if p != place], 2)
                cut = [(a, b) for a, b in pairs if not apart_in(web, a, b, ()) and apart_in(web, a, b, (place,))]
                self.same_kind(cut_pair(web, place), cut[0] if cut else None)
                wanted += [place] if cut else []
            self.same_kind(cut_places(web), tuple(wanted))

    def test_examples(self):
        self.same_kind(cut_places(LINE), ("b", "c"))
        self.same_kind(cut_pair(LINE, "b"), ("a", "c"))
        self.same_kind(cut_pair(place="c", web=LINE), ("a", "d"))
        self.assertIsNone(cut_pair(LINE, "a"))
        self.same_kind(cut_places(LINE.with_tie("a", "d")), ())
        self.same_kind(cut_places(Web(())), ())
        self.same_kind(cut_places(no_ties(SEVEN)), ())
        self.same_kind(cut_places(Web(SEVEN, list(zip(SEVEN, SEVEN[1:])))), SEVEN[1:6])

    def test_checks(self):
        self.checks_place(lambda place: cut_pair(LINE, place))
        self.refused(Unknown("a"), cut_pair, Web(()), "a")


class BlocksTest(Case):

    def test_close_places_are_those_of_the_definition(self):
        for web in webs():
            for a, b in permutations(web.places, 2):
                self.assertIs(close(web, a, b), close_by_definition(web, a, b))
                if web.tied(a, b):
                    self.assertIs(close(b=b, a=a, web=web), True)

    def test_blocks_are_those_of_the_definition(self):
        for web in webs():
            self.same_kind(blocks_of(web), blocks_by_definition(web))

    def test_two_blocks_have_at_most_a_cut_place_in_common(self):
        for web in webs() + webs_of_many(SEVEN, 40):
            for one, other in combinations(blocks_of(web), 2):
                common = set(one) & set(other)
                self.assertLessEqual(len(common), 1)
                self.assertLessEqual(common, set(cut_places(web)))

    def test_examples(self):
        self.same_kind(blocks_of(LINE), [("a", "b"), ("b", "c"), ("c", "d")])
        self.same_kind(blocks_of(LINE.with_tie("a", "d")), [FOUR])
        self.same_kind(blocks_of(Web(SEVEN, [("a", "aa"), ("aa", "b"), ("a", "b"), ("b", "c"), ("c", "d"), ("d", "e"),
                                             ("c", "e")])), [("a", "aa", "b"), ("b", "c"), ("c", "d", "e"), ("f",)])
        self.same_kind(blocks_of(Web(())), [])
        self.same_kind(blocks_of(no_ties(SEVEN)), [(place,) for place in SEVEN])
        self.same_kind(blocks_of(all_tied(SEVEN)), [SEVEN])
        self.assertIs(close(LINE, "a", "c"), False)
        self.assertIs(close(LINE.with_tie("a", "d"), "a", "c"), True)
        self.fresh_list(blocks_of, LINE)
        self.fresh_list(blocks_of, Web(()))

    def test_checks(self):
        self.checks_place(lambda place: close(LINE, place, "A"))
        self.checks_place(lambda place: close(LINE, "a", place))
        for place in FOUR:
            self.refused(BadLot((place, place)), close, LINE, place, place)
        self.refused(Unknown("x"), close, LINE, "x", "x")
        self.refused(Unknown("a"), close, Web(()), "a", "a")


if __name__ == "__main__":
    unittest.main()
