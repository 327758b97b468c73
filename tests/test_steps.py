"""Tests of keepsapart.steps: points [42] and [43] and the interface."""

import unittest
from itertools import product

from keepsapart.errors import BadLot, BadPlace, BadSaying, Shared, TooMany, Unknown
from keepsapart.steps import are_steps, gather_steps, grow_steps, is_lean, scatter_steps, steps_to
from tests.helper import (
    BAD, FIVE, FORTY, NO_LOTS, NO_SAYINGS, SEVEN, UNKNOWN, Case, joined, triples, use_set, uses_over,
)

TWO = FIVE[:2]
THREE = FIVE[:3]
FOUR = FIVE[:4]
AB = (("a",), (), ("b",))
BA = (("b",), (), ("a",))
TURN = (1, (AB,), (BA,))
WIDE = (FORTY[:15], FORTY[15:25], FORTY[25:])


def pair(places, a, b):
    """The pair saying of two places."""
    return ((a,), tuple(place for place in places if place not in (a, b)), (b,))


def is_full(places, saying):
    """True if the saying leaves no place of the world outside."""
    return sum(len(lot) for lot in saying) == len(places)


def reachable(places, known, rules):
    """All sayings that the known ones reach by these rules, by the definition."""
    held = set(known)
    uses = [use for use in uses_over(places) if use[0] in rules]
    found = True
    while found:
        found = {use[2][0] for use in uses if set(use[1]) <= held} - held
        held |= found
    return held


class Judge(Case):

    def right_answer(self, steps, places, known, goals, rules):
        """The steps are a right answer as point [43] tells, judged by the definitions and by the program."""
        self.assertIs(type(steps), tuple)
        uses = use_set(places)
        held = set(known)
        for use in steps:
            self.assertIn(use, uses)
            self.assertIn(use[0], rules)
            self.assertLessEqual(set(use[1]), held)
            self.assertNotIn(use[2][0], held)
            held.add(use[2][0])
        self.assertLessEqual(set(goals), held)
        self.assertLessEqual(len(steps), len(triples(places)))
        if len(known) <= 40 and len(goals) <= 40:
            self.assertIs(are_steps(places, known, goals, steps), True)
            self.assertIs(is_lean(known, steps), True)


class AreStepsTest(Case):

    def test_right_steps(self):
        first = (3, (BA,), ((("b",), ("c",), ("a",)),))
        second = (1, first[2], ((("a",), ("c",), ("b",)),))
        steps = [TURN, first, second]
        self.assertIs(are_steps(THREE, [AB], [second[2][0], AB], steps), True)
        self.assertIs(are_steps(steps=tuple(steps), goals=(), known=(AB, AB), places=THREE), True)
        self.assertIs(are_steps(THREE, [AB], [second[2][0]], [TURN, second, first]), False)
        self.assertIs(are_steps(THREE, [AB], [], [first]), False)
        self.assertIs(are_steps(THREE, [], [], [TURN]), False)
        self.assertIs(are_steps(THREE, [AB], [BA, (("a",), (), ("c",))], steps), False)
        self.assertIs(are_steps(THREE, [BA], [AB], [TURN]), False)

    def test_no_steps(self):
        self.assertIs(are_steps((), [], [], []), True)
        self.assertIs(are_steps(TWO, [AB], [AB, AB], ()), True)
        self.assertIs(are_steps(TWO, [AB], [BA], ()), False)
        self.assertIs(are_steps(TWO, [], [AB], []), False)

    def test_steps_need_not_be_lean(self):
        back = (1, (BA,), (AB,))
        steps = [TURN, back] * 350
        self.assertIs(are_steps(TWO, [AB], [BA], steps), True)
        self.assertIs(is_lean([AB], steps), False)

    def test_both_premises_are_known(self):
        cross = (4, ((("a",), ("c",), ("b",)), (("a",), ("b",), ("c",))), ((("a",), (), ("b", "c")),))
        for known in ((), cross[1][:1], cross[1][1:], cross[1], cross[1][::-1], cross[1] + cross[2]):
            self.assertIs(are_steps(THREE, known, [], [cross]), set(cross[1]) <= set(known))
            self.assertIs(are_steps(THREE, known, cross[2], [cross]), set(cross[1]) <= set(known))

    def test_only_uses_over_the_world_by_the_rules_1_to_4_are_steps(self):
        wanted = set(uses_over(THREE))
        sayings = triples(THREE)
        for rule in range(7):
            for first, second in product(sayings, sayings):
                use = (rule, (first,), (second,))
                self.assertIs(are_steps(THREE, [first], [], [use]), use in wanted and rule < 5)
        for use in uses_over(FOUR):
            self.assertIs(are_steps(FOUR, use[1], use[2], [use]), use[0] < 5)
            self.assertIs(are_steps(THREE, [], [], [use]), False)

    def test_raw_uses_raise_nothing(self):
        for lots in NO_SAYINGS + tuple(lots for lots, _ in NO_LOTS + UNKNOWN) + (WIDE,):
            for rule in (-1, 0, 1, 2, 3, 4, 5, 6):
                for use in ((rule, (lots,), (lots[::-1],)), (rule, (AB,), (lots,)), (rule, (AB, lots), (AB,)),
                            (rule, (), (lots,)), (rule, (AB,), ()), (rule, (), ()), (rule, (lots,) * 700, (AB,))):
                    self.assertIs(are_steps(TWO, [AB], [AB], [use]), False)
                    self.assertIs(are_steps(TWO, [AB], [AB], [TURN, use]), False)

    def test_checks(self):
        self.checks_world(lambda places: are_steps(places, [BAD] * 41, [BAD] * 41, []), 5)
        self.checks_list(lambda known: are_steps(FOUR, known, [BAD] * 41, []), 40)
        self.checks_list(lambda goals: are_steps(FOUR, [AB] * 40, goals, [TURN]), 40)
        self.assertIs(are_steps(FOUR, [AB] * 40, [BA] * 40, [TURN] * 700), True)
        self.refused(Unknown("a"), are_steps, (), [AB], [], [])
        self.refused(Unknown("b"), are_steps, ("a",), [], [AB], [(0, (), ())])

    def test_arguments_stay(self):
        known, goals, steps = [AB], [BA], [TURN]
        are_steps(TWO, known, goals, steps)
        is_lean(known, [])
        self.assertEqual((known, goals, steps), ([AB], [BA], [TURN]))


class IsLeanTest(Case):

    def test_conclusions_are_neither_known_nor_concluded_before(self):
        self.assertIs(is_lean([AB], [TURN]), True)
        self.assertIs(is_lean([BA], [TURN]), False)
        self.assertIs(is_lean([], [TURN, TURN]), False)
        self.assertIs(is_lean(steps=(TURN, (2, (), (AB,))), known=()), True)
        self.assertIs(is_lean([AB, BA], []), True)
        self.assertIs(is_lean([], []), True)

    def test_a_step_may_have_any_number_of_conclusions(self):
        self.assertIs(is_lean([], [(7, (), (AB, AB, BA, AB))]), True)
        self.assertIs(is_lean([], [(7, (), (AB, AB)), (0, (), (BA, AB))]), False)
        self.assertIs(is_lean([AB], [(1, (AB, AB, AB), ())] * 700), True)
        self.assertIs(is_lean([AB], [(1, (), (BA, AB))]), False)
        self.assertIs(is_lean([], [(1, (), (AB,)), (1, (), ()), (1, (), (BA, BA)), (1, (), (WIDE, BA))]), False)

    def test_whether_the_steps_are_uses_does_not_matter(self):
        for lots in NO_SAYINGS + tuple(lots for lots, _ in NO_LOTS + UNKNOWN) + (WIDE, (FORTY,) * 3):
            self.assertIs(is_lean([AB], [(0, (lots,), (lots,)), TURN]), True)
            self.assertIs(is_lean([AB], [(0, (lots,), (lots,)), TURN, (9, (), (lots,))]), False)

    def test_known_sayings_are_checked_without_a_world(self):
        self.refused(TooMany(40, 41), is_lean, [BAD] * 41, [])
        self.refused(TooMany(40, 700), is_lean, [AB] * 700, [])
        for lots, error in NO_LOTS:
            self.refused(error, is_lean, [AB, lots, BAD], [TURN, TURN])
        for lots in NO_SAYINGS:
            self.refused(BadSaying(lots), is_lean, known=(AB, lots, BAD), steps=[])
        self.assertIs(is_lean([WIDE] * 40, [TURN]), True)
        self.assertIs(is_lean([WIDE], [(1, (), (WIDE,))]), False)


class GrowStepsTest(Judge):

    def test_all_sayings_with_a_place_outside(self):
        for places in (THREE, FOUR, FIVE):
            for saying in triples(places):
                x, z, y = saying
                for place in places:
                    if place not in x + z + y:
                        w = (place,)
                        goal = (x, z, joined(y, w))
                        steps = grow_steps(places, saying, place)
                        self.right_answer(steps, places, [saying, (x, z, w)], [goal], (1, 3, 4))
                        goal = (joined(x, w), z, y)
                        steps = grow_steps(places, saying, place, to_left=True)
                        self.right_answer(steps, places, [saying, (w, z, y)], [goal], (1, 3, 4))

    def test_arguments_by_name_and_defaults(self):
        steps = grow_steps(THREE, AB, "c")
        self.same_kind(grow_steps(to_left=False, place="c", saying=AB, places=THREE), steps)
        self.assertEqual(grow_steps(THREE, AB, "c", to_left=True), grow_steps(THREE, AB, "c", to_left=True))
        self.assertEqual(grow_steps(FOUR, AB, "c"), grow_steps(THREE, AB, "c"))

    def test_checks(self):
        for to_left in (False, True):
            self.checks_world(lambda places: grow_steps(places, BAD, "A", to_left=to_left), 5)
            self.checks_saying(lambda lots: grow_steps(FOUR, lots, "A", to_left=to_left))
            saying = (("a",), ("b",), ("c",))
            self.refused(BadPlace("A"), grow_steps, FOUR, saying, "A", to_left=to_left)
            self.refused(Unknown("e"), grow_steps, FOUR, saying, "e", to_left=to_left)
            for place in "abc":
                self.refused(Shared(place), grow_steps, FOUR, saying, place, to_left=to_left)
            self.refused(Unknown("b"), grow_steps, ("a", "c"), AB, "a", to_left=to_left)


class ScatterGatherTest(Judge):

    def test_all_full_sayings(self):
        for places in (TWO, THREE, FOUR, FIVE, SEVEN[:5]):
            for saying in triples(places):
                if is_full(places, saying):
                    pairs = [pair(places, a, b) for a in saying[0] for b in saying[2]]
                    self.right_answer(scatter_steps(places, saying), places, [saying], pairs, (1, 2, 3))
                    self.right_answer(gather_steps(places, saying), places, pairs, [saying], (1, 4))

    def test_a_pair_saying_is_known_already(self):
        saying = pair(FIVE, "d", "b")
        self.right_answer(scatter_steps(saying=saying, places=FIVE), FIVE, [saying], [saying], (1, 2, 3))
        self.right_answer(gather_steps(saying=saying, places=FIVE), FIVE, [saying], [saying], (1, 4))

    def test_equal_answers(self):
        saying = (("a", "c"), ("e",), ("b", "d"))
        for function in (scatter_steps, gather_steps):
            self.same_kind(function(FIVE, saying), function(places=FIVE, saying=saying))

    def test_checks(self):
        for function in (scatter_steps, gather_steps):
            self.checks_world(lambda places: function(places, BAD), 5)
            self.checks_saying(lambda lots: function(FOUR, lots))
            for saying in triples(FOUR):
                if not is_full(FOUR, saying):
                    self.refused(BadSaying(saying), function, FOUR, saying)
            self.refused(Unknown("a"), function, (), AB)


class StepsToTest(Judge):

    def test_all_goals_over_three_places(self):
        sayings = triples(THREE)
        for k in range(0, 18, 2):
            for known in ([], sayings[k:k + 1], sayings[k::5], [sayings[k], sayings[k - 7], sayings[k]]):
                for rules in ((1, 2, 3, 4), (), (1,), (2, 3), (1, 4), (1, 2, 4)):
                    held = reachable(THREE, known, rules)
                    for goal in sayings:
                        self.check_goal(THREE, known, goal, rules, held)

    def test_goals_over_four_places(self):
        sayings = triples(FOUR)
        for known in (sayings[3::37], sayings[10:50], [(("a",), (), ("b", "c", "d"))], [pair(FOUR, "a", "b")] * 40):
            for rules in ((1, 2, 3, 4), (1, 3, 4), (2, 4)):
                held = reachable(FOUR, known, rules)
                for goal in sayings[::6]:
                    self.check_goal(FOUR, known, goal, rules, held)

    def check_goal(self, places, known, goal, rules, held):
        steps = steps_to(places, known, goal, rules=rules)
        if goal in held:
            self.right_answer(steps, places, known, [goal], rules)
            self.assertEqual(steps_to(places, tuple(known), goal, rules=rules), steps)
        else:
            self.assertIsNone(steps)

    def test_a_goal_that_is_known_already(self):
        self.right_answer(steps_to(TWO, [AB], AB), TWO, [AB], [AB], (1, 2, 3, 4))
        self.right_answer(steps_to(TWO, [AB], AB, rules=()), TWO, [AB], [AB], ())

    def test_no_known_sayings(self):
        self.assertIsNone(steps_to(FOUR, [], AB))
        self.assertIsNone(steps_to(goal=AB, known=(), places=FOUR, rules=(1, 2, 3, 4)))

    def test_arguments_stay(self):
        known = [AB]
        self.same_kind(steps_to(TWO, known, BA), (TURN,))
        self.assertEqual(known, [AB])

    def test_checks(self):
        self.checks_world(lambda places: steps_to(places, [BAD] * 41, BAD, rules=(0,)), 4)
        self.checks_list(lambda known: steps_to(FOUR, known, BAD, rules=(0,)), 40)
        self.checks_saying(lambda goal: steps_to(FOUR, [AB], goal, rules=(0,)))
        self.checks_rules(lambda rules: steps_to(FOUR, [AB], AB, rules=rules), 4)
        self.refused(TooMany(4, 5), steps_to, FIVE, [], AB)
        self.refused(Unknown("a"), steps_to, (), [], AB)
        self.refused(BadLot(("b", "a")), steps_to, places=("b", "a"), known=[], goal=BAD)


if __name__ == "__main__":
    unittest.main()
