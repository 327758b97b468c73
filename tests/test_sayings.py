"""Tests of keepsapart.sayings: points [3] to [9], [15] to [18], rules 2 and 3 of [30], and the interface."""

import unittest

from keepsapart.errors import BadLot, BadPlace, BadSaying, Repeated, Shared, TooMany, Unknown
from keepsapart.sayings import (
    all_sayings, check_saying, check_told, fewer, is_full, is_saying, load_of, make_saying, more, outside_of,
    pair_saying, places_of, turned,
)
from tests.helper import (
    FIVE, FORTY, NO_LOTS, NO_PLACES, NO_SAYINGS, SEVEN, TWELVE, UNKNOWN, Case, triples,
)

SAYING = (("a",), ("b",), ("c",))
WIDE = (FORTY[:15], FORTY[15:25], FORTY[25:])


class MakeTest(Case):

    def test_names_in_any_order(self):
        self.same_kind(make_saying(["c", "a"], [], ["b"]), (("a", "c"), (), ("b",)))
        self.same_kind(make_saying(("a",), ("d", "c"), ("b", "aa")), (("a",), ("c", "d"), ("aa", "b")))
        self.same_kind(make_saying(right=["a"], left=["c"], between=("b",)), (("c",), ("b",), ("a",)))

    def test_many_names(self):
        names = [x + y + "k" for x in "abcdefghijklmnopqrst" for y in "abcdefghijklmnopqrst"]
        saying = make_saying(list(reversed(names[:300])), names[300:350], names[350:])
        self.same_kind(saying, (tuple(names[:300]), tuple(names[300:350]), tuple(names[350:])))

    def test_each_argument_is_checked_before_the_next(self):
        self.refused(BadPlace("A"), make_saying, ["a", "a", "A"], ["B"], ["C"])
        self.refused(Repeated("a"), make_saying, ["a", "a"], ["B"], ["C"])
        self.refused(BadPlace("B"), make_saying, [], ["b", "b", "B"], ["C"])
        self.refused(Repeated("b"), make_saying, ["b"], ["b", "b"], ["C"])
        self.refused(BadPlace("C"), make_saying, [], [], ["c", "c", "C"])
        self.refused(Repeated("c"), make_saying, right=["c", "c"], left=[], between=["c"])

    def test_three_lots_that_are_no_saying(self):
        for lots in NO_SAYINGS:
            self.refused(BadSaying(lots), make_saying, *lots)
            self.refused(BadSaying(lots), make_saying, *[list(reversed(lot)) for lot in lots])

    def test_arguments_stay_and_later_changes_have_no_effect(self):
        left, between, right = ["b", "a"], ["d", "c"], ["f", "e"]
        saying = make_saying(left, between, right)
        self.assertEqual((left, between, right), (["b", "a"], ["d", "c"], ["f", "e"]))
        left.append("x")
        self.same_kind(saying, (("a", "b"), ("c", "d"), ("e", "f")))
        self.same_kind(make_saying(("b", "a"), ("d", "c"), ("f", "e")), saying)


class CheckTest(Case):

    def test_sayings_are_accepted(self):
        for places in (FIVE[:2], FIVE[:3], FIVE[:4]):
            for saying in triples(places):
                self.assertIsNone(check_saying(saying))
                self.assertIsNone(check_saying(saying=saying, places=None))
                self.assertIsNone(check_saying(saying, places=places))
                self.assertIs(is_saying(places, saying), True)
                self.assertIs(is_saying(saying=saying, places=FIVE), True)
        self.assertIsNone(check_saying(WIDE))
        self.assertIsNone(check_saying(WIDE, places=FORTY))

    def test_lots_that_are_no_saying(self):
        for lots in NO_SAYINGS:
            self.refused(BadSaying(lots), check_saying, lots)
            self.refused(BadSaying(lots), check_saying, saying=lots, places=FIVE)
            self.assertIs(is_saying(FIVE, lots), False)

    def test_lots_are_checked_in_order_and_before_the_form(self):
        for lots, error in NO_LOTS:
            self.refused(error, check_saying, lots)
            self.refused(error, check_saying, lots, places=FIVE)
            self.assertIs(is_saying(FIVE, lots), False)

    def test_over_a_world_the_first_unknown_place_comes_before_the_later_lots(self):
        for lots, error in UNKNOWN:
            self.refused(error, check_saying, lots, places=FIVE)
            self.assertIs(is_saying(FIVE, lots), False)
        self.refused(Unknown("a"), check_saying, SAYING, places=())
        self.refused(Unknown("c"), check_saying, SAYING, places=("a", "b", "d"))
        self.refused(Unknown("b"), check_saying, SAYING, places=("a", "c"))
        self.refused(BadPlace("B"), check_saying, (("x",), ("B",), ("y",)))
        self.refused(BadLot(("x", "a")), check_saying, (("x", "a"), (), ("b",)), places=FIVE)

    def test_judging_raw_sayings_raises_nothing(self):
        for text in NO_PLACES:
            for lots in (((text,), (), ("a",)), (("a",), (text,), ("b",)), (("a",), (), ("b", text))):
                self.assertIs(is_saying(FIVE, lots), False)
                self.assertIs(is_full(FIVE, lots), False)
        self.assertIs(is_saying((), SAYING), False)
        self.assertIs(is_saying(FIVE, (("b", "a"), (), ("c",))), False)
        self.assertIs(is_saying(FIVE, (("a",), ("c", "b"), ("d",))), False)
        self.assertIs(is_saying(FIVE, (("a",), (), ("c", "b"))), False)
        self.assertIs(is_saying(FIVE, WIDE), False)

    def test_the_world_is_checked_first(self):
        for call in (is_saying, outside_of, is_full, load_of):
            self.refused(BadPlace("A"), call, ("b", "a", "A"), (("A",), (), ()))
            self.refused(BadLot(("b", "a")), call, ("b", "a"), (("A",), (), ()))
            self.refused(TooMany(7, 8), call, TWELVE[:8], (("A",), (), ()))
            self.refused(TooMany(7, 40), call, FORTY, SAYING)

    def test_a_world_may_have_seven_places(self):
        saying = (("a", "aa"), ("b", "c", "d"), ("e", "f"))
        self.assertIs(is_saying(SEVEN, saying), True)
        self.assertIs(is_full(SEVEN, saying), True)
        self.same_kind(outside_of(SEVEN, (("a",), (), ("f",))), SEVEN[1:6])
        self.same_kind(load_of(SEVEN, [saying, (("a",), (), ("f",))]), 5)


class ToldTest(Case):

    def test_told_lists(self):
        for told in ([], (), [SAYING], (SAYING, SAYING), [SAYING] * 10, [turned(SAYING), SAYING]):
            self.assertIsNone(check_told(told))
            self.assertIsNone(check_told(told=told, places=None))
            self.assertIsNone(check_told(told, places=FIVE))
        self.assertIsNone(check_told([], places=()))
        self.assertIsNone(check_told([WIDE]))

    def test_more_than_ten_items_are_refused_first(self):
        self.refused(TooMany(10, 11), check_told, [SAYING] * 11)
        self.refused(TooMany(10, 11), check_told, ((("A",), (), ()),) * 11, places=())
        self.refused(TooMany(10, 700), check_told, [SAYING] * 700)
        self.refused(TooMany(10, 18), check_told, all_sayings(("a", "b", "c")))
        self.refused(TooMany(10, 18), load_of, ("a", "b", "c"), all_sayings(("a", "b", "c")))

    def test_items_are_checked_in_order(self):
        for lots, error in NO_LOTS:
            self.refused(error, check_told, [SAYING, lots, (("A",), (), ())])
            self.refused(error, load_of, FIVE, [SAYING, lots, (("A",), (), ())])
        for lots, error in UNKNOWN:
            self.refused(error, check_told, [SAYING, lots, (("A",), (), ())], places=FIVE)
            self.refused(error, load_of, FIVE, [SAYING, lots, (("A",), (), ())])
        for lots in NO_SAYINGS:
            self.refused(BadSaying(lots), check_told, (lots, ((), ("A",), ())), places=FIVE)
            self.refused(BadSaying(lots), check_told, [SAYING, lots])
        self.refused(Unknown("a"), check_told, [SAYING], places=())

    def test_load(self):
        self.same_kind(load_of(FIVE, []), 0)
        self.same_kind(load_of((), ()), 0)
        self.same_kind(load_of(FIVE, [SAYING]), 2)
        self.same_kind(load_of(FIVE, (SAYING, SAYING)), 4)
        self.same_kind(load_of(told=[SAYING, (("a", "b"), ("d",), ("c", "e")), (("e",), (), ("d",))], places=FIVE), 5)
        self.same_kind(load_of(SEVEN, [(("a",), (), ("b",))] * 10), 50)
        told = [SAYING, turned(SAYING)]
        self.same_kind(load_of(("a", "b", "c", "d"), told), 2)
        self.assertEqual(told, [SAYING, turned(SAYING)])


class ChangeTest(Case):

    def test_turned(self):
        self.same_kind(turned((("a", "b"), ("c",), ("d",))), (("d",), ("c",), ("a", "b")))
        self.same_kind(turned(saying=(("a",), (), ("b",))), (("b",), (), ("a",)))
        self.same_kind(turned(WIDE), WIDE[::-1])
        for saying in triples(FIVE[:4]):
            self.assertNotEqual(turned(saying), saying)
            self.assertEqual(turned(turned(saying)), saying)

    def test_one_argument_is_checked_as_a_saying(self):
        for call in (turned, places_of, lambda saying: fewer(saying, "A"), lambda saying: more(saying, "A")):
            for lots, error in NO_LOTS:
                self.refused(error, call, lots)
            for lots in NO_SAYINGS:
                self.refused(BadSaying(lots), call, lots)

    def test_fewer(self):
        self.same_kind(fewer((("a",), ("b",), ("c", "d", "e")), "c"), (("a",), ("b",), ("d", "e")))
        self.same_kind(fewer((("a",), ("b",), ("c", "d", "e")), "d"), (("a",), ("b",), ("c", "e")))
        self.same_kind(fewer(place="e", saying=(("a",), (), ("c", "e"))), (("a",), (), ("c",)))
        self.same_kind(fewer(WIDE, FORTY[39]), (WIDE[0], WIDE[1], FORTY[25:39]))

    def test_checks_of_fewer(self):
        saying = (("a", "b"), ("c",), ("d", "e"))
        self.refused(BadPlace("A"), fewer, saying, "A")
        for place in ("a", "b", "c", "x", "dd"):
            self.refused(Unknown(place), fewer, saying, place)
        self.refused(BadSaying((("a",), ("b",), ())), fewer, SAYING, "c")
        self.refused(BadSaying((("a", "b"), (), ())), fewer, place="c", saying=(("a", "b"), (), ("c",)))
        self.refused(Unknown("a"), fewer, SAYING, "a")

    def test_more(self):
        self.same_kind(more((("a",), ("b", "d"), ("e",)), "c"), (("a",), ("b", "c", "d"), ("e",)))
        self.same_kind(more((("a",), (), ("e",)), "zzzzzz"), (("a",), ("zzzzzz",), ("e",)))
        self.same_kind(more(place="aa", saying=(("a",), ("b",), ("e",))), (("a",), ("aa", "b"), ("e",)))
        self.same_kind(more((("b",), ("c",), ("d",)), "a"), (("b",), ("a", "c"), ("d",)))

    def test_checks_of_more(self):
        saying = (("a", "b"), ("c", "d"), ("e", "f"))
        self.refused(BadPlace("A"), more, saying, "A")
        for place in "abcdef":
            self.refused(Shared(place), more, saying, place)


class PlacesTest(Case):

    def test_places_of(self):
        self.same_kind(places_of((("c", "e"), ("a", "f"), ("b", "d"))), ("a", "b", "c", "d", "e", "f"))
        self.same_kind(places_of(saying=(("b",), (), ("a",))), ("a", "b"))
        self.same_kind(places_of(WIDE), FORTY)

    def test_outside_of(self):
        self.same_kind(outside_of(FIVE, SAYING), ("d", "e"))
        self.same_kind(outside_of(FIVE, (("d",), (), ("b",))), ("a", "c", "e"))
        self.same_kind(outside_of(saying=SAYING, places=("a", "b", "c")), ())

    def test_checks_of_outside_of(self):
        for lots, error in NO_LOTS + UNKNOWN:
            self.refused(error, outside_of, FIVE, lots)
        for lots in NO_SAYINGS:
            self.refused(BadSaying(lots), outside_of, FIVE, lots)

    def test_is_full(self):
        for saying in triples(FIVE):
            self.assertIs(is_full(FIVE, saying), sum(len(lot) for lot in saying) == 5)
            self.assertIs(is_full(saying=saying, places=SEVEN[:1] + SEVEN[2:]), False)
        self.assertIs(is_full(("a", "b"), (("a",), (), ("b",))), True)
        self.assertIs(is_full(("a", "b", "c"), (("a",), ("b",), ("b",))), False)
        self.assertIs(is_full(("a", "b"), (("a",), (), ("c",))), False)
        for lots in NO_SAYINGS + tuple(lots for lots, _ in NO_LOTS + UNKNOWN):
            self.assertIs(is_full(FIVE, lots), False)


class AllTest(Case):

    def test_all_sayings(self):
        for many, found in enumerate((0, 0, 2, 18, 110, 570)):
            for places in (FIVE[:many], SEVEN[:many]):
                self.same_kind(all_sayings(places), triples(places))
                self.assertEqual(len(all_sayings(places=places)), found)
        self.same_kind(all_sayings(("a", "b")), [(("a",), (), ("b",)), (("b",), (), ("a",))])
        self.fresh_list(all_sayings, ())
        self.fresh_list(all_sayings, ("a", "b", "c"))

    def test_checks_of_all_sayings(self):
        self.refused(TooMany(5, 6), all_sayings, SEVEN[:6])
        self.refused(TooMany(5, 40), all_sayings, places=FORTY)
        self.refused(BadLot(SEVEN[::-1]), all_sayings, SEVEN[::-1])
        self.refused(BadPlace("A"), all_sayings, SEVEN[::-1] + ("A",))

    def test_pair_saying(self):
        self.same_kind(pair_saying(FIVE, "b", "d"), (("b",), ("a", "c", "e"), ("d",)))
        self.same_kind(pair_saying(FIVE, "d", "b"), (("d",), ("a", "c", "e"), ("b",)))
        self.same_kind(pair_saying(b="a", a="b", places=("a", "b")), (("b",), (), ("a",)))
        self.same_kind(pair_saying(SEVEN, "a", "f"), (("a",), SEVEN[1:6], ("f",)))

    def test_checks_of_pair_saying(self):
        self.refused(BadPlace("P"), pair_saying, ("b", "a", "P"), "A", "B")
        self.refused(BadLot(("b", "a")), pair_saying, ("b", "a"), "A", "B")
        self.refused(TooMany(7, 8), pair_saying, TWELVE[:8], "A", "B")
        self.refused(BadPlace("A"), pair_saying, FIVE, "A", "B")
        self.refused(Unknown("x"), pair_saying, FIVE, "x", "B")
        self.refused(BadPlace("B"), pair_saying, FIVE, "a", "B")
        self.refused(Unknown("y"), pair_saying, FIVE, "a", "y")
        self.refused(Unknown("x"), pair_saying, FIVE, "x", "x")
        self.refused(BadLot(("c", "c")), pair_saying, FIVE, "c", "c")
        self.refused(Unknown("a"), pair_saying, (), "a", "a")


if __name__ == "__main__":
    unittest.main()
