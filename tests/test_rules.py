"""Tests of keepsapart.rules: points [8], [9], [13], [30] to [32] and [38] and the interface."""

import unittest
from itertools import product

from keepsapart.errors import BadRule, BadSaying, BadText, BadUse, Unknown
from keepsapart.rules import all_uses, check_use, is_use, read_use, use_text, uses_from, uses_to
from keepsapart.sayings import all_sayings
from tests.helper import (
    FIVE, FORTY, NO_LOTS, NO_SAYING_LINES, NO_SAYINGS, SEVEN, UNKNOWN, Case, best_time, triples, uses_over, written,
)

THREE = FIVE[:3]
FOUR = FIVE[:4]
CROSS = (4, ((("a",), ("c",), ("b",)), (("a",), ("b",), ("c",))), ((("a",), (), ("b", "c")),))
EITHER = (5, ((("a",), (), ("b",)),), ((("a",), (), ("c",)), (("c",), (), ("b",))))
SAYING = (("a",), ("b",), ("c",))
WIDE = (FORTY[:15], FORTY[15:25], FORTY[25:])
RULES = [rules for many in range(6) for rules in product(range(1, 6), repeat=many) if list(rules) == sorted(set(rules))]


class IsUseTest(Case):

    def test_exactly_the_uses_over_three_places_are_uses(self):
        wanted = uses_over(THREE)
        sayings = triples(THREE)
        for rule in range(1, 6):
            for first, second in product(sayings, sayings):
                use = (rule, (first,), (second,))
                self.assertIs(is_use(THREE, use), use in wanted)
            for first, second, third in product(sayings[:9], sayings, sayings):
                for use in ((rule, (first, second), (third,)), (rule, (first,), (second, third))):
                    self.assertIs(is_use(THREE, use), use in wanted)

    def test_all_uses_are_uses(self):
        for use in uses_over(FIVE):
            self.assertIs(is_use(FIVE, use), True)
        for use in uses_over(FOUR):
            self.assertIs(is_use(use=use, places=FOUR), True)
            self.assertIs(is_use(FIVE, use), True)
            self.assertIs(is_use(THREE, use), "d" not in str(use))

    def test_uses_with_an_item_more_or_less_or_in_another_order_are_none(self):
        for rule, premises, conclusions in uses_over(FOUR):
            for other in (
                (rule, premises + premises[:1], conclusions), (rule, premises, conclusions + conclusions[:1]),
                (rule, premises[1:], conclusions), (rule, premises, conclusions[1:]), (rule, (), ()),
                (rule, (), conclusions), (rule, premises, ()), (0, premises, conclusions),
                (rule + 5, premises, conclusions), (-rule, premises, conclusions),
                (999999999, premises, conclusions), (rule % 5 + 1, premises, conclusions),
            ):
                self.assertIs(is_use(FOUR, other), False)
        self.assertIs(is_use(FOUR, EITHER), True)
        self.assertIs(is_use(FOUR, EITHER[:2] + (EITHER[2][::-1],)), False)

    def test_the_premises_of_rule_4_stand_in_one_order_unless_the_right_lots_are_single(self):
        self.assertIs(is_use(THREE, CROSS), True)
        self.assertIs(is_use(THREE, (4, CROSS[1][::-1], CROSS[2])), True)
        first, second = (("a",), ("d",), ("b", "c")), (("a",), ("b", "c"), ("d",))
        conclusion = (("a",), (), ("b", "c", "d"))
        self.assertIs(is_use(FOUR, (4, (first, second), (conclusion,))), True)
        self.assertIs(is_use(FOUR, (4, (second, first), (conclusion,))), False)

    def test_rules_2_and_3_do_not_change_the_left_lot(self):
        self.assertIs(is_use(THREE, (2, ((("a",), (), ("b", "c")),), ((("a",), (), ("b",)),))), True)
        self.assertIs(is_use(THREE, (2, ((("a", "b"), (), ("c",)),), ((("a",), (), ("c",)),))), False)
        self.assertIs(is_use(THREE, (3, ((("a",), (), ("b",)),), ((("a",), ("c",), ("b",)),))), True)
        self.assertIs(is_use(THREE, (3, ((("a",), (), ("b", "c")),), ((("a",), ("c",), ("b",)),))), False)
        self.assertIs(is_use(THREE, (2, ((("a",), ("c",), ("b",)),), ((("a",), (), ("b",)),))), False)

    def test_raw_uses_raise_nothing(self):
        good = (("a",), (), ("b",))
        for lots in NO_SAYINGS + tuple(lots for lots, _ in NO_LOTS + UNKNOWN) + (WIDE, (FORTY, FORTY, FORTY)):
            for rule in (-5, 0, 1, 2, 3, 4, 5, 6):
                for use in (
                    (rule, (lots,), (good,)), (rule, (good,), (lots,)), (rule, (lots,), (lots,)),
                    (rule, (good, lots), (good,)), (rule, (good,), (good, lots)), (rule, (lots, good), (good,)),
                    (rule, (lots,), (lots[::-1],)), (rule, (lots,) * 700, ()), (rule, (), (lots,) * 700),
                ):
                    self.assertIs(is_use(FIVE, use), False)
        self.assertIs(is_use((), CROSS), False)

    def test_the_world_is_checked(self):
        self.checks_world(lambda places: is_use(places, (0, (), ())), 5)
        self.checks_world(lambda places: is_use(places, CROSS), 5)


class CheckUseTest(Case):

    def test_shaped_uses_are_accepted(self):
        good = (("a",), (), ("b",))
        for use in uses_over(FOUR) + [(1, (good, good), (good, good)), (5, (good,), (good,)), (3, (WIDE,), (WIDE,))]:
            self.assertIsNone(check_use(use))
            self.assertIsNone(check_use(use=use, places=None))
            self.assertIsNone(check_use(use, places=FORTY if use[1] == (WIDE,) else FIVE))

    def test_the_rule_is_checked_first_then_the_numbers(self):
        bad = (("A",), (), ())
        for rule in (0, 6, -1, 10, 999999999, -999999999):
            self.refused(BadRule(rule), check_use, (rule, (), (bad,)))
            self.refused(BadRule(rule), check_use, (rule, (bad,), (SAYING,)), places=())
            self.refused(BadRule(rule), use_text, (rule, (), (bad,)))
        for first in (0, 1, 2, 3, 4, 700):
            for second in (0, 1, 2, 3, 4, 700):
                for rule in range(1, 6):
                    if first not in (1, 2) or second not in (1, 2):
                        use = (rule, (bad,) * first, (SAYING,) * second)
                        self.refused(BadUse(use), check_use, use)
                        self.refused(BadUse(use), check_use, use=use, places=())
                        self.refused(BadUse(use), use_text, use)

    def test_the_sayings_are_checked_in_order(self):
        bad = (("Z",), (), ())
        for make in (
            lambda lots: (1, (lots, bad), (bad,)), lambda lots: (5, (SAYING, lots), (bad,)),
            lambda lots: (3, (SAYING,), (lots, bad)), lambda lots: (4, (SAYING, SAYING), (SAYING, lots)),
        ):
            self.checks_saying(lambda lots: check_use(make(lots), places=FOUR))
            for function in (check_use, use_text):
                for lots, error in NO_LOTS:
                    self.refused(error, function, make(lots))
                for lots in NO_SAYINGS:
                    self.refused(BadSaying(lots), function, make(lots))
        self.refused(Unknown("a"), check_use, CROSS, places=())
        self.refused(Unknown("c"), check_use, CROSS, places=("a", "b"))


class AllUsesTest(Case):

    def test_the_uses_are_those_of_the_definition(self):
        for many, found in enumerate((0, 0, 2, 42, 398, 2770)):
            for places in (FIVE[:many], SEVEN[:many]):
                self.same_kind(all_uses(places), uses_over(places))
                self.assertEqual(len(all_uses(places=places)), found)

    def test_the_example_of_the_document(self):
        self.same_kind(all_uses(("a", "b")), [
            (1, ((("a",), (), ("b",)),), ((("b",), (), ("a",)),)), (1, ((("b",), (), ("a",)),), ((("a",), (), ("b",)),)),
        ])

    def test_some_of_the_rules(self):
        wanted = uses_over(FOUR)
        self.assertEqual(len(RULES), 32)
        for rules in RULES:
            self.same_kind(all_uses(FOUR, rules=rules), [use for use in wanted if use[0] in rules])
        self.same_kind(all_uses(rules=(), places=FIVE), [])

    def test_uses_from_and_to_a_saying(self):
        wanted = uses_over(FOUR)
        for saying in triples(FOUR):
            leaving = [use for use in wanted if saying in use[1]]
            coming = [use for use in wanted if saying in use[2]]
            self.same_kind(uses_from(FOUR, saying), leaving)
            self.same_kind(uses_to(FOUR, saying), coming)
            for rules in ((), (4,), (1, 5), (2, 3, 4)):
                self.same_kind(uses_from(FOUR, saying, rules=rules), [use for use in leaving if use[0] in rules])
                self.same_kind(uses_to(FOUR, saying, rules=rules), [use for use in coming if use[0] in rules])
        self.same_kind(uses_from(saying=SAYING, places=THREE, rules=(4,)), [use for use in uses_over(THREE)
                       if use[0] == 4 and SAYING in use[1]])
        self.same_kind(uses_to(rules=(5,), saying=SAYING, places=THREE), [])

    def test_uses_over_five_places(self):
        for places in (FIVE, SEVEN[:5]):
            leaving = {saying: [] for saying in triples(places)}
            coming = {saying: [] for saying in triples(places)}
            for use in uses_over(places):
                for saying in set(use[1]):
                    leaving[saying].append(use)
                for saying in set(use[2]):
                    coming[saying].append(use)
            for saying in triples(places):
                self.same_kind(uses_from(places, saying), leaving[saying])
                self.same_kind(uses_to(places, saying), coming[saying])

    def test_each_rule_alone_over_five_places(self):
        wanted = uses_over(FIVE)
        for rule in range(1, 6):
            uses = [use for use in wanted if use[0] == rule]
            self.same_kind(all_uses(FIVE, rules=(rule,)), uses)
            for saying in triples(FIVE)[::57]:
                self.same_kind(uses_from(FIVE, saying, rules=(rule,)), [use for use in uses if saying in use[1]])
                self.same_kind(uses_to(FIVE, saying, rules=(rule,)), [use for use in uses if saying in use[2]])

    def test_calls_over_five_places_end_soon(self):
        sayings = triples(FIVE)[::12] + [(("a",), ("c",), ("b",)), (("a",), ("b", "c", "d"), ("e",))]
        self.assertEqual(len(sayings), 50)
        # 50 calls took 0.0015 seconds where they were measured; ten times that is allowed.
        for function in (uses_from, uses_to):
            self.assertLess(best_time(lambda: [function(FIVE, saying) for saying in sayings]), 0.015)
        # All uses took eight times as long as all sayings.
        self.assertLess(best_time(lambda: all_uses(FIVE)), 25 * best_time(lambda: all_sayings(FIVE)))

    def test_checks(self):
        bad = (("A",), (), ())
        self.checks_world(lambda places: all_uses(places, rules=(0,)), 5)
        self.checks_rules(lambda rules: all_uses(THREE, rules=rules), 5)
        for function in (uses_from, uses_to):
            self.checks_world(lambda places: function(places, bad, rules=(0,)), 5)
            self.checks_saying(lambda lots: function(FOUR, lots, rules=(0,)))
            self.checks_rules(lambda rules: function(THREE, SAYING, rules=rules), 5)
            self.refused(Unknown("a"), function, (), SAYING)
            self.refused(Unknown("a"), function, ("b",), SAYING)

    def test_lists_are_new(self):
        self.fresh_list(all_uses, THREE)
        self.fresh_list(all_uses, ())
        self.fresh_list(uses_from, THREE, SAYING)
        self.fresh_list(uses_to, THREE, SAYING, rules=())


class TextTest(Case):

    def not_read(self, text, line):
        self.refused(BadText(line), read_use, text)

    def test_written_uses(self):
        text = "4 : a | c | b ; a | b | c : a | | b c"
        self.same_kind(use_text(CROSS), text)
        self.same_kind(use_text(use=CROSS), text)
        self.same_kind(read_use(text), CROSS)
        self.same_kind(read_use(text=text), CROSS)
        self.same_kind(use_text(EITHER), "5 : a | | b : a | | c ; c | | b")

    def test_reading_a_written_use_gives_an_equal_use(self):
        sayings = triples(THREE)
        shaped = [
            (rule, premises, conclusions) for rule in range(1, 6)
            for premises in [(sayings[0],), (sayings[5], sayings[17]), (WIDE,)]
            for conclusions in [(sayings[3],), (sayings[9], sayings[9]), (WIDE[::-1], sayings[1])]
        ]
        for use in uses_over(FIVE) + shaped:
            rule, premises, conclusions = use
            groups = [" ; ".join(written(saying) for saying in group) for group in (premises, conclusions)]
            self.same_kind(use_text(use), f"{rule} : {groups[0]} : {groups[1]}")
            self.same_kind(read_use(use_text(use)), use)

    def test_lines_that_are_not_allowed(self):
        good = "a | | b"
        lines = [
            "", " ", ":", " : ", " :  : ", "1", "1 : ", "1 : a | | b", "1 : a | | b :", "1 : a | | b : ", ": a | | b : a | | b",
            " : a | | b : a | | b", "1 :  : a | | b", "1 : : a | | b", "0 : a | | b : a | | b", "6 : a | | b : a | | b",
            "9 : a | | b : a | | b", "12 : a | | b : a | | b", "01 : a | | b : a | | b", "+1 : a | | b : a | | b",
            "-1 : a | | b : a | | b", "one : a | | b : a | | b", "1: a | | b : a | | b", "1 :a | | b : a | | b",
            "1 : a | | b: a | | b", "1 : a | | b :a | | b", " 1 : a | | b : a | | b", "1 : a | | b : a | | b ",
            "1  : a | | b : a | | b", "1 :  a | | b : a | | b", "1 : a | | b  : a | | b", "1 : a | | b :  a | | b",
            "1 : a | | b : a | | b :", "1 : a | | b : a | | b : a | | b", "1 : a | | b a | | b", "1 a | | b : a | | b",
            "1 : a | | b ; : a | | b", "1 : ; a | | b : a | | b", "1 : a | | b ;  : a | | b", "1 : a | | b; a | | b : a | | b",
            "1 : a | | b ;a | | b : a | | b", "1 : a | | b  ; a | | b : a | | b", "1 : a | | b ;  a | | b : a | | b",
            "1 : a | | b : a | | b ;", "1 : a | | b : ; a | | b", "1 : a | | b ; a | | b ; a | | b : a | | b",
            "1 : a | | b : a | | b ; a | | b ; a | | b", "1 ; a | | b : a | | b", "1 : a | | b ; a | | b", "1 1 : a | | b : a | | b",
            "use 1 : a | | b : a | | b", "step 1 : a | | b : a | | b", "1 . a | | b . a | | b", "1 : ; : ;", "1 : ; : a | | b",
            good, "1 : " * 50,
        ]
        for line in lines:
            self.not_read(line, 1)
            self.not_read(line + "\n1 : a | | b : a | | b", 1)
        for line in NO_SAYING_LINES:
            if " ; " not in line and " : " not in line:
                self.not_read(f"1 : {line} : {good}", 1)
                self.not_read(f"1 : {good} : {line}", 1)
                self.not_read(f"2 : {good} ; {line} : {good}", 1)
                self.not_read(f"3 : {good} : {line} ; {good}", 1)

    def test_no_second_line_is_allowed(self):
        for line in ("", " ", "1 : a | | b : a | | b", "wrong"):
            self.not_read("1 : a | | b : b | | a\n" + line, 2)
            self.not_read("1 : a | | b : b | | a\n" + line + "\nwrong", 2)
        self.not_read("\n1 : a | | b : b | | a", 1)
        self.not_read("\n" * 20000, 1)
        self.not_read("1" * 20000, 1)


if __name__ == "__main__":
    unittest.main()
