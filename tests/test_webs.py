"""Tests of keepsapart.webs: points [3] to [9] and [12] and the interface."""

import unittest
from itertools import combinations

from keepsapart.errors import BadLot, BadPlace, OtherPlaces, Repeated, TooMany, Unknown
from keepsapart.webs import Web, all_tied, all_webs, induced, no_ties, web_within
from tests.helper import FORTY, NO_PLACES, SEVEN, TWELVE, Case

FOUR = ("a", "b", "c", "d")
LINE = (("a", "b"), ("b", "c"), ("c", "d"))


def pairs(places):
    return list(combinations(places, 2))


class MakeTest(Case):

    def test_places_and_ties(self):
        web = Web(FOUR, [("c", "d"), ("a", "b"), ("b", "c")])
        self.same_kind(web.places, FOUR)
        self.same_kind(web.ties, LINE)
        self.assertEqual(Web(places=FOUR, ties=LINE), web)
        self.assertEqual(Web(FOUR, tuple(reversed(LINE))), web)

    def test_a_web_may_have_no_ties_and_no_places(self):
        self.same_kind(Web(FOUR).ties, ())
        self.same_kind(Web(()).places, ())
        self.same_kind(Web((), []).ties, ())
        self.same_kind(Web(("zzzzzz",)).places, ("zzzzzz",))

    def test_a_web_may_have_seven_places_and_all_ties(self):
        web = Web(SEVEN, list(reversed(pairs(SEVEN))))
        self.same_kind(web.places, SEVEN)
        self.same_kind(web.ties, tuple(pairs(SEVEN)))
        self.refused(TooMany(7, 8), Web, TWELVE[:8])
        self.refused(TooMany(7, 40), Web, FORTY, [("A",)])

    def test_the_world_is_checked_before_the_ties(self):
        self.refused(BadPlace("B"), Web, ("b", "a", "B"), [("A", "a")])
        self.refused(BadLot(("b", "a")), Web, ("b", "a"), [("A", "a")])
        self.refused(BadLot(("a", "a")), Web, ties=(), places=("a", "a"))
        self.refused(TooMany(7, 8), Web, TWELVE[:8], [("A", "a")])

    def test_each_tie_is_checked(self):
        for tie in ((), ("a",), ("a", "b", "c"), ("b", "a"), ("a", "a"), ("c", "b", "a"), TWELVE):
            self.refused(BadLot(tie), Web, FOUR, [("a", "b"), tie])
            self.refused(BadLot(tie), Web, (), (tie,))
        for text in NO_PLACES:
            self.refused(BadPlace(text), Web, FOUR, [("a", text)])
            self.refused(BadPlace(text), Web, FOUR, [("b", "b", text, "A")])
        self.refused(Unknown("x"), Web, FOUR, [("x", "y")])
        self.refused(Unknown("y"), Web, FOUR, [("a", "y")])
        self.refused(Unknown("aa"), Web, FOUR, [("aa", "b")])
        self.refused(Unknown("a"), Web, (), [("a", "b")])
        self.refused(Repeated(("a", "b")), Web, FOUR, [("a", "b"), ("b", "c"), ("a", "b"), ("b", "c")])

    def test_a_tie_of_unknown_places_is_first_refused_for_its_form(self):
        self.refused(BadLot(("y", "x")), Web, FOUR, [("y", "x")])
        self.refused(BadLot(("x", "y", "z")), Web, FOUR, [("x", "y", "z")])
        self.refused(BadLot(("x",)), Web, FOUR, [("x",)])

    def test_each_tie_is_checked_before_the_next(self):
        self.refused(Unknown("x"), Web, FOUR, [("a", "x"), ("A", "b")])
        self.refused(Repeated(("a", "b")), Web, FOUR, [("a", "b"), ("a", "b"), ("A",)])
        self.refused(BadLot(("b", "a")), Web, FOUR, [("a", "b"), ("b", "a"), ("a", "b")])
        self.refused(BadPlace("A"), Web, FOUR, [("a", "b"), ("A",), ("a", "b")])

    def test_700_ties(self):
        self.refused(Repeated(("a", "aa")), Web, SEVEN, pairs(SEVEN) * 33 + pairs(SEVEN)[:7])
        self.refused(Repeated(("a", "b")), Web, FOUR, [("a", "b")] * 700)

    def test_a_list_that_is_changed_later_has_no_effect(self):
        ties = [("b", "c"), ("a", "b")]
        web = Web(FOUR, ties)
        self.assertEqual(ties, [("b", "c"), ("a", "b")])
        ties.append(("c", "d"))
        ties[0] = ("a", "d")
        self.same_kind(web.ties, (("a", "b"), ("b", "c")))
        self.assertIs(web.tied("c", "d"), False)
        self.same_kind(web.neighbours("b"), ("a", "c"))


class MethodsTest(Case):

    def test_tied_and_neighbours_in_all_webs_of_four_places(self):
        for many in range(7):
            for ties in combinations(pairs(FOUR), many):
                web = Web(FOUR, ties)
                for a in FOUR:
                    near = tuple(b for b in FOUR if (a, b) in ties or (b, a) in ties)
                    self.same_kind(web.neighbours(a), near)
                    for b in FOUR:
                        self.assertIs(web.tied(a, b), b in near)

    def test_tied_and_neighbours_by_name(self):
        web = Web(FOUR, LINE)
        self.assertIs(web.tied(a="b", b="a"), True)
        self.assertIs(web.tied(b="c", a="a"), False)
        self.assertIs(web.tied("a", b="a"), False)
        self.same_kind(web.neighbours(place="b"), ("a", "c"))

    def test_checks_of_tied_and_neighbours(self):
        web = Web(FOUR, LINE)
        self.refused(BadPlace("A"), web.tied, "A", "B")
        self.refused(Unknown("x"), web.tied, "x", "B")
        self.refused(BadPlace("B"), web.tied, "a", "B")
        self.refused(Unknown("y"), web.tied, "a", "y")
        self.refused(Unknown("x"), web.tied, "x", "x")
        self.refused(BadPlace("A"), web.neighbours, "A")
        self.refused(Unknown("x"), web.neighbours, place="x")
        self.refused(Unknown("a"), Web(()).neighbours, "a")

    def test_with_and_without_a_tie_in_all_webs_of_four_places(self):
        for many in range(7):
            for ties in combinations(pairs(FOUR), many):
                web = Web(FOUR, ties)
                for pair in pairs(FOUR):
                    more = tuple(sorted(set(ties) | {pair}))
                    fewer = tuple(sorted(set(ties) - {pair}))
                    for a, b in (pair, pair[::-1]):
                        self.assertEqual(web.with_tie(a, b), Web(FOUR, more))
                        self.assertEqual(web.without_tie(a, b), Web(FOUR, fewer))
                        self.assertIs(web.with_tie(a, b).tied(a, b), True)
                        self.assertIs(web.without_tie(a, b).tied(a, b), False)
                self.same_kind(web.ties, ties)

    def test_with_and_without_a_tie_by_name(self):
        web = Web(FOUR, LINE)
        self.same_kind(web.with_tie(b="a", a="d").ties, (("a", "b"), ("a", "d"), ("b", "c"), ("c", "d")))
        self.same_kind(web.without_tie(a="c", b="b").ties, (("a", "b"), ("c", "d")))

    def test_checks_of_with_and_without_a_tie(self):
        web = Web(FOUR, LINE)
        for method in (web.with_tie, web.without_tie):
            self.refused(BadPlace("A"), method, "A", "A")
            self.refused(Unknown("x"), method, "x", "B")
            self.refused(BadPlace("B"), method, "a", "B")
            self.refused(Unknown("y"), method, "a", "y")
            self.refused(Unknown("x"), method, "x", "x")
            self.refused(BadLot(("b", "b")), method, "b", "b")
            self.refused(BadLot(("a", "a")), method, b="a", a="a")

    def test_with_place(self):
        web = Web(("b", "d"), [("b", "d")])
        self.assertEqual(web.with_place("c"), Web(("b", "c", "d"), [("b", "d")]))
        self.assertEqual(
            web.with_place("c", tied_to=("b", "d")), Web(("b", "c", "d"), pairs(("b", "c", "d"))))
        self.assertEqual(web.with_place(place="a", tied_to=("d",)), Web(("a", "b", "d"), [("a", "d"), ("b", "d")]))
        self.assertEqual(web.with_place("e", tied_to=("b",)), Web(("b", "d", "e"), [("b", "d"), ("b", "e")]))
        self.assertEqual(Web(()).with_place("abcdef"), Web(("abcdef",)))
        self.same_kind(web.places, ("b", "d"))
        self.assertEqual(all_tied(SEVEN[:6]).with_place("f", tied_to=SEVEN[:6]), all_tied(SEVEN))

    def test_checks_of_with_place(self):
        web = Web(("a", "b"))
        full = Web(SEVEN)
        self.refused(BadPlace("A"), full.with_place, "A", tied_to=("B",))
        self.refused(Repeated("a"), web.with_place, "a", tied_to=("B",))
        self.refused(Repeated("a"), full.with_place, "a", tied_to=("x",))
        self.refused(BadPlace("B"), full.with_place, "x", tied_to=("b", "a", "B"))
        self.refused(BadLot(("b", "a")), full.with_place, "x", tied_to=("b", "a"))
        self.refused(Unknown("c"), web.with_place, "c", tied_to=("c",))
        self.refused(Unknown("y"), full.with_place, "x", tied_to=("a", "y"))
        self.refused(TooMany(7, 8), full.with_place, "x", tied_to=("a",))
        self.refused(TooMany(7, 8), full.with_place, place="x")

    def test_without_place(self):
        web = Web(FOUR, LINE)
        self.assertEqual(web.without_place("a"), Web(("b", "c", "d"), [("b", "c"), ("c", "d")]))
        self.assertEqual(web.without_place(place="b"), Web(("a", "c", "d"), [("c", "d")]))
        self.assertEqual(Web(("a",)).without_place("a"), Web(()))
        self.assertEqual(all_tied(SEVEN).without_place("f"), all_tied(SEVEN[:6]))
        self.same_kind(web.places, FOUR)
        self.refused(BadPlace("A"), web.without_place, "A")
        self.refused(Unknown("x"), web.without_place, "x")


class OperatorsTest(Case):

    def test_equal_webs(self):
        web = Web(FOUR, LINE)
        for other in (Web(FOUR, LINE), Web(FOUR, list(reversed(LINE))), web):
            self.assertIs(web == other, True)
            self.assertIs(web != other, False)

    def test_other_values_are_not_equal(self):
        web = Web(("a", "b"))
        others = (
            Web(("a", "b"), [("a", "b")]), Web(("a", "c")), Web(("a",)), Web(("a", "b", "c")), Web(()),
            None, 0, 1, True, "web a b", ("a", "b"), ["a", "b"], {}, {"a"}, (("a", "b"), ()), b"web", Web,
        )
        for other in others:
            self.assertIs(web == other, False)
            self.assertIs(web != other, True)
            self.assertIs(other == web, False)
            self.assertIs(other != web, True)

    def test_in(self):
        web = Web(("a", "bb"))
        for text, wanted in (("a", True), ("bb", True), ("b", False), ("", False), ("A", False), ("abcdefghijkl", False)):
            self.assertIs(text in web, wanted)
            self.assertIs(text not in web, not wanted)
        self.assertIs("a" in Web(()), False)

    def test_iteration(self):
        self.same_kind(list(Web(SEVEN, [("a", "f")])), list(SEVEN))
        self.same_kind([place for place in Web(())], [])
        web = Web(("a", "b"))
        self.same_kind([(first, second) for first in web for second in web],
                       [("a", "a"), ("a", "b"), ("b", "a"), ("b", "b")])

    def test_and_or(self):
        choices = [ties for many in range(4) for ties in combinations(pairs(("a", "b", "c")), many)]
        for first in choices:
            for second in choices:
                left, right = Web(("a", "b", "c"), first), Web(("a", "b", "c"), second)
                both, some = left & right, left | right
                self.same_kind(both.ties, tuple(sorted(set(first) & set(second))))
                self.same_kind(some.ties, tuple(sorted(set(first) | set(second))))
                self.same_kind(both.places + some.places, ("a", "b", "c") * 2)
                self.same_kind((left.ties, right.ties), (first, second))

    def test_and_or_of_webs_over_other_worlds(self):
        for first, second in ((("a",), ("a", "b")), ((), ("a",)), (("a", "b"), ("a", "c"))):
            self.refused(OtherPlaces(first, second), lambda: Web(first) & Web(second))
            self.refused(OtherPlaces(second, first), lambda: Web(second) & Web(first))
            self.refused(OtherPlaces(first, second), lambda: Web(first) | Web(second))
            self.refused(OtherPlaces(second, first), lambda: Web(second) | Web(first))


class FunctionsTest(Case):

    def test_no_ties_and_all_tied(self):
        for many in range(8):
            places = SEVEN[:many]
            self.assertEqual(no_ties(places), Web(places))
            self.assertEqual(all_tied(places), Web(places, pairs(places)))
        self.assertEqual(no_ties(places=("a",)), Web(("a",)))
        self.assertEqual(all_tied(places=("a", "b")), Web(("a", "b"), [("a", "b")]))

    def test_checks_of_the_world(self):
        for function, most in ((no_ties, 7), (all_tied, 7), (all_webs, 4)):
            self.refused(BadPlace("A"), function, TWELVE[::-1] + ("A",))
            self.refused(BadLot(TWELVE[::-1]), function, TWELVE[::-1])
            self.refused(BadLot(("a", "a")), function, places=("a", "a"))
            self.refused(TooMany(most, most + 1), function, TWELVE[:most + 1])
            self.refused(TooMany(most, 40), function, FORTY)

    def test_all_webs(self):
        for many, found in ((0, 1), (1, 1), (2, 2), (3, 8), (4, 64)):
            places = FOUR[:many]
            webs = all_webs(places)
            choices = [ties for k in range(7) for ties in combinations(pairs(places), k)]
            self.same_kind([web.ties for web in webs], sorted(choices))
            self.same_kind([web.places for web in webs], [places] * found)
        self.assertEqual(all_webs(places=("a", "b")), [Web(("a", "b")), Web(("a", "b"), [("a", "b")])])
        self.fresh_list(lambda: [web.ties for web in all_webs(("a", "b"))])
        webs = all_webs(("a",))
        webs.append(None)
        self.assertEqual(all_webs(("a",)), [Web(("a",))])

    def test_web_within(self):
        choices = [ties for many in range(4) for ties in combinations(pairs(("a", "b", "c")), many)]
        for first in choices:
            for second in choices:
                small, big = Web(("a", "b", "c"), first), Web(("a", "b", "c"), second)
                self.assertIs(web_within(small, big), set(first) <= set(second))
                self.assertIs(web_within(big=big, small=small), set(first) <= set(second))
        self.assertIs(web_within(Web(()), Web(())), True)
        self.refused(OtherPlaces(("a",), ("a", "b")), web_within, Web(("a",)), Web(("a", "b")))
        self.refused(OtherPlaces(("b",), ("a",)), web_within, big=Web(("a",)), small=Web(("b",)))

    def test_induced(self):
        web = Web(FOUR, LINE)
        self.assertEqual(induced(web, ("a", "b", "d")), Web(("a", "b", "d"), [("a", "b")]))
        self.assertEqual(induced(web, ("b", "c", "d")), Web(("b", "c", "d"), LINE[1:]))
        self.assertEqual(induced(lot=(), web=web), Web(()))
        self.assertEqual(induced(web, FOUR), web)
        self.assertEqual(induced(all_tied(SEVEN), SEVEN[2:]), all_tied(SEVEN[2:]))
        self.refused(BadPlace("A"), induced, web, ("x", "a", "A"))
        self.refused(BadLot(("x", "a")), induced, web, ("x", "a"))
        self.refused(Unknown("x"), induced, web, ("a", "x", "y"))

    def test_equal_calls_give_equal_answers(self):
        for _ in range(2):
            web = Web(FOUR, list(LINE))
            self.assertEqual(web.with_tie("a", "c"), Web(FOUR, LINE + (("a", "c"),)))
            self.assertEqual(web.with_place("e"), Web(FOUR + ("e",), LINE))
            self.assertEqual(all_webs(FOUR), all_webs(places=FOUR))


if __name__ == "__main__":
    unittest.main()
