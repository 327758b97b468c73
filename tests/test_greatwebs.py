"""Tests of keepsapart.greatwebs: points [44] to [46] and the interface."""

import unittest
from itertools import product

from keepsapart.apart import keeps
from keepsapart.errors import BadSaying, NotKept, TooMany, Unknown
from keepsapart.greatwebs import (
    choice_of, choices_of, extensions_of, great_above, greatest_webs, is_greatest, keeping_webs, web_of_choice,
)
from keepsapart.webs import Web, all_tied, all_webs, no_ties
from keepsapart.webtext import web_line
from tests.helper import BAD, FIVE, SEVEN, Case, full_extensions, load, lies_within, some_told, triples, web_keeps

THREE = FIVE[:3]
FOUR = FIVE[:4]
AB = (("a",), (), ("b",))
PART = (("a",), ("c",), ("b",))


def greatest_by_definition(places, told):
    """The webs that keep a told list and lie within no other such web, among all webs over up to 4 places."""
    webs = [web for web in all_webs(places) if web_keeps(web, told)]
    return [web for web in webs if not any(lies_within(web, other) and web != other for other in webs)]


def web_by_definition(places, choice):
    """The web of a choice, by the definition."""
    parted = {(min(a, b), max(a, b)) for x, _, y in choice for a in x for b in y}
    pairs = [(a, b) for a in places for b in places if a < b]
    return Web(places, [pair for pair in pairs if pair not in parted])


class ExtensionsTest(Case):

    def test_extensions_are_those_of_the_definition(self):
        for places in (FIVE[:2], THREE, FOUR, FIVE):
            for saying in triples(places):
                wanted = full_extensions(places, saying)
                self.same_kind(extensions_of(places, saying), wanted)
                self.assertEqual(len(wanted), 2 ** load(places, [saying]))
        self.same_kind(extensions_of(saying=AB, places=THREE), [(("a",), (), ("b", "c")), (("a", "c"), (), ("b",))])

    def test_a_world_of_seven_places(self):
        found = extensions_of(SEVEN, (("b",), (), ("a",)))
        self.assertEqual(len(found), 32)
        self.assertEqual(found, sorted(set(found)))
        for x, z, y in found:
            self.assertEqual((tuple(sorted(x + y)), z), (SEVEN, ()))
            self.assertTrue("b" in x and "a" in y)
            self.assertEqual((tuple(sorted(x)), tuple(sorted(y))), (x, y))

    def test_a_full_saying_is_its_only_extension(self):
        self.same_kind(extensions_of(THREE, PART), [PART])
        self.fresh_list(extensions_of, THREE, PART)
        self.fresh_list(extensions_of, FIVE, AB)

    def test_checks(self):
        self.checks_world(lambda places: extensions_of(places, BAD), 7)
        self.checks_saying(lambda lots: extensions_of(FOUR, lots))
        self.refused(Unknown("a"), extensions_of, (), AB)


class ChoicesTest(Case):

    def test_choices_are_those_of_the_definition(self):
        for places in (FIVE[:2], THREE, FOUR, FIVE):
            for told in some_told(places, 6):
                wanted = sorted(product(*[full_extensions(places, saying) for saying in told]))
                self.same_kind(choices_of(places, told), wanted)
                self.same_kind(choices_of(told=tuple(told), places=places), wanted)
                self.assertEqual(len(wanted), 2 ** load(places, told))

    def test_the_only_choice_of_the_empty_list(self):
        for many in range(8):
            self.same_kind(choices_of(SEVEN[:many], []), [()])
            self.same_kind(choices_of(SEVEN[:many], ()), [()])
        self.fresh_list(choices_of, THREE, [])
        self.fresh_list(choices_of, THREE, [AB])

    def test_the_greatest_load(self):
        told = [AB, (("c",), ("d",), ("e",)), PART]
        self.assertEqual(load(SEVEN, [(("a",), ("aa",), ("b",)), (("c",), ("a", "aa", "b", "d"), ("e",))]), 5)
        self.assertEqual(len(choices_of(FOUR, [AB, AB, AB])), 64)
        self.assertEqual(len(choices_of(THREE, [AB] * 6 + [PART] * 4)), 64)
        self.refused(TooMany(6, 7), choices_of, FIVE, told)
        self.refused(TooMany(6, 7), choices_of, THREE, [AB] * 7)
        self.refused(TooMany(6, 50), choices_of, SEVEN, [(("a",), (), ("b",))] * 10)

    def test_checks(self):
        self.checks_world(lambda places: choices_of(places, [BAD] * 11), 7)
        self.checks_list(lambda told: choices_of(FOUR, told))
        self.refused(Unknown("x"), choices_of, SEVEN, [(("a",), (), ("b",))] * 9 + [(("x",), (), ("b",))])


class WebOfChoiceTest(Case):

    def test_webs_of_choices(self):
        for places in (FIVE[:2], THREE, FOUR, FIVE):
            for told in some_told(places, 4):
                for choice in choices_of(places, told):
                    web = web_of_choice(places, choice)
                    self.assertEqual(web, web_by_definition(places, choice))
                    self.assertTrue(web_keeps(web, told))
        self.assertEqual(web_of_choice(choice=[PART], places=THREE), Web(THREE, [("a", "c"), ("b", "c")]))

    def test_a_choice_need_not_be_one_for_a_told_list_that_was_passed(self):
        full = [saying for saying in triples(FIVE) if load(FIVE, [saying]) == 0]
        for k in range(0, 170, 10):
            choice = [full[k], full[k + 1], full[k], full[k + 5]]
            self.assertEqual(web_of_choice(FIVE, choice), web_by_definition(FIVE, choice))
            self.assertEqual(web_of_choice(FIVE, tuple(choice)), web_by_definition(FIVE, choice))

    def test_the_empty_choice(self):
        for many in range(8):
            self.assertEqual(web_of_choice(SEVEN[:many], ()), all_tied(SEVEN[:many]))

    def test_checks(self):
        self.checks_world(lambda places: web_of_choice(places, [BAD] * 11), 7)
        self.checks_list(lambda choice: web_of_choice(FOUR, choice))
        self.refused(BadSaying(AB), web_of_choice, THREE, [PART, AB, (("b",), (), ("a",))])
        self.refused(Unknown("x"), web_of_choice, THREE, [AB, (("x",), (), ("b",))])


class ChoiceOfTest(Case):

    def test_reached_extensions(self):
        for places in (FIVE[:2], THREE, FOUR):
            for web in all_webs(places)[::3]:
                for told in some_told(places, 6)[:40]:
                    self.check_choice(web, told)
        for web in (no_ties(SEVEN), Web(SEVEN, [("a", "b"), ("d", "e")])):
            self.check_choice(web, [(("a",), (), ("d",)), (("c",), ("aa",), ("a", "f"))] * 5)

    def check_choice(self, web, told):
        failing = [saying for saying in told if not keeps(web, saying)]
        if failing:
            self.refused(NotKept(failing[0]), choice_of, web, told)
            self.refused(NotKept(failing[0]), great_above, web, told)
            return
        choice = choice_of(web, told)
        self.same_kind(choice_of(told=tuple(told), web=web), choice)
        self.assertIs(type(choice), tuple)
        for (x, z, y), found in zip(told, choice, strict=True):
            self.assertIn(found, full_extensions(web.places, (x, z, y)))
            self.assertEqual(set(found[0]), self.near(web, x, z))
        self.assertTrue(lies_within(web, web_of_choice(web.places, choice)))

    def near(self, web, x, z):
        """The places reached from a lot, by following ties."""
        found = set(x)
        for _ in web.places:
            found |= {b for tie in web.ties for a, b in (tie, tie[::-1]) if a in found and b not in z}
        return found

    def test_the_empty_list(self):
        self.same_kind(choice_of(no_ties(SEVEN), []), ())
        self.same_kind(choice_of(Web(()), ()), ())

    def test_checks(self):
        self.checks_list(lambda told: choice_of(all_tied(FOUR), told))
        self.refused(Unknown("x"), choice_of, all_tied(THREE), [AB, (("x",), (), ("b",))])
        self.refused(NotKept(PART[::-1]), choice_of, Web(THREE, [("a", "b")]), [(("a",), (), ("c",)), PART[::-1], PART])


class GreatestTest(Case):

    def test_greatest_webs_are_those_of_the_definition(self):
        several = 0
        for places in (FIVE[:2], THREE, FOUR):
            for told in some_told(places, 6):
                wanted = greatest_by_definition(places, told)
                found = greatest_webs(places, told)
                self.assertEqual(found, wanted)
                self.assertEqual(greatest_webs(told=tuple(told), places=places), wanted)
                self.assertEqual([web.ties for web in found], sorted({web.ties for web in found}))
                several += len(found) > 1
        self.assertGreater(several, 20)

    def test_the_judge_and_the_keeping_webs(self):
        for places in (FIVE[:2], THREE, FOUR):
            for told in some_told(places, 99)[::4]:
                wanted = greatest_by_definition(places, told)
                webs = [web for web in all_webs(places) if web_keeps(web, told)]
                self.assertEqual(keeping_webs(places, told), webs)
                self.assertEqual(keeping_webs(told=tuple(told), places=places), webs)
                for web in all_webs(places):
                    self.assertIs(is_greatest(web, told), web in wanted)
                    self.assertIs(is_greatest(told=tuple(told), web=web), web in wanted)
                    self.assertEqual(web in webs, any(lies_within(web, great) for great in wanted))

    def test_greatest_webs_of_large_worlds(self):
        for places, told in (
            (FIVE, [AB, PART]), (FIVE, [AB, (("c",), (), ("d",))]), (FIVE, [PART] * 3), (SEVEN, [(("a",), (), ("b",))]),
            (SEVEN, [(("a",), ("aa",), ("b", "c")), (("d",), ("a", "b"), ("c", "e"))]),
            (SEVEN, [(("a", "d"), ("aa",), ("b", "c", "e")), (("d",), ("a", "b", "f"), ("c", "e"))]),
        ):
            found = greatest_webs(places, told)
            self.assertEqual([web.ties for web in found], sorted({web.ties for web in found}))
            self.assertGreater(len(found), 1)
            for web in found:
                self.assertIs(is_greatest(web, told), True)
            for choice in product(*[full_extensions(places, saying) for saying in told]):
                web = web_by_definition(places, choice)
                self.assertTrue(any(lies_within(web, great) for great in found))
                self.assertIs(is_greatest(web, told), web in found)

    def test_greatest_webs_may_have_different_numbers_of_ties(self):
        found = greatest_webs(FOUR, [AB])
        self.assertEqual({len(web.ties) for web in found}, {2, 3})

    def test_the_example_of_the_document(self):
        found = [web_line(web) for web in greatest_webs(THREE, [AB])]
        self.same_kind(found, ["web a b c ; tie a c", "web a b c ; tie b c"])

    def test_the_empty_list(self):
        for many in range(8):
            places = SEVEN[:many]
            self.assertEqual(greatest_webs(places, []), [all_tied(places)])
            self.assertIs(is_greatest(all_tied(places), ()), True)
            self.assertIs(is_greatest(no_ties(places), []), many < 2)
            self.assertEqual(great_above(no_ties(places), []), all_tied(places))
        for many in range(5):
            self.assertEqual(keeping_webs(FIVE[:many], []), all_webs(FIVE[:many]))
        self.fresh_list(greatest_webs, THREE, [])
        self.fresh_list(keeping_webs, THREE, [])

    def test_lists_without_load(self):
        self.assertEqual(greatest_webs(THREE, [PART]), [Web(THREE, [("a", "c"), ("b", "c")])])
        full = (("a", "aa"), ("b",), ("c", "d", "e", "f"))
        self.assertEqual(greatest_webs(SEVEN, [full] * 10), [web_by_definition(SEVEN, [full])])

    def test_there_is_no_check_of_a_load_in_the_judge_and_above(self):
        told = [(("a",), (), ("b",))] * 10
        web = Web(SEVEN, [("a", "aa"), ("b", "c")])
        self.assertIs(is_greatest(web, told), False)
        self.assertIs(is_greatest(great_above(web, told), told), True)
        self.assertEqual(len(keeping_webs(FOUR, [AB] * 10)), len(keeping_webs(FOUR, [AB])))

    def test_great_above(self):
        for places in (FIVE[:2], THREE, FOUR):
            for told in some_told(places, 99)[::5]:
                wanted = greatest_by_definition(places, told)
                for web in all_webs(places):
                    if web_keeps(web, told):
                        self.check_above(web, told, wanted)

    def check_above(self, web, told, wanted):
        great = web
        for a in web.places:
            for b in web.places:
                if a < b and web_keeps(great.with_tie(a, b), told):
                    great = great.with_tie(a, b)
        found = great_above(web, told)
        self.assertEqual(found, great)
        self.assertEqual(great_above(told=tuple(told), web=web), great)
        self.assertIn(found, wanted)
        self.assertTrue(lies_within(web, found))

    def test_checks(self):
        self.checks_world(lambda places: greatest_webs(places, [BAD] * 11), 7)
        self.checks_world(lambda places: keeping_webs(places, [BAD] * 11), 4)
        self.checks_list(lambda told: greatest_webs(FOUR, told))
        self.checks_list(lambda told: keeping_webs(FOUR, told))
        for web in (no_ties(FOUR), all_tied(FOUR)):
            self.checks_list(lambda told: is_greatest(web, told))
            self.checks_list(lambda told: great_above(web, told))
        self.refused(TooMany(6, 7), greatest_webs, THREE, [AB] * 7)
        self.refused(TooMany(4, 5), keeping_webs, FIVE, [])
        self.refused(Unknown("a"), keeping_webs, (), [AB])
        self.refused(Unknown("a"), is_greatest, Web(()), [AB])
        self.refused(NotKept(AB), great_above, all_tied(THREE), [AB])

    def test_the_arguments_stay(self):
        told = [AB, PART]
        web = no_ties(FOUR)
        for call in (
            lambda: greatest_webs(FOUR, told), lambda: great_above(web, told), lambda: choices_of(FOUR, told),
            lambda: keeping_webs(FOUR, told), lambda: is_greatest(web, told), lambda: choice_of(web, told),
        ):
            self.assertEqual(call(), call())
            self.assertEqual((told, web), ([AB, PART], no_ties(FOUR)))


if __name__ == "__main__":
    unittest.main()
