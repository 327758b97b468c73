"""Tests of keepsapart.places: points [3] to [11] and the interface."""

import unittest
from itertools import combinations

from keepsapart.errors import BadLot, BadPlace, Repeated, TooMany, Unknown
from keepsapart.places import (
    check_lot, check_place, check_places, is_lot, is_place, lot_common, lot_minus, lot_union,
    make_lot, pairs_of, sublots,
)
from tests.helper import FORTY, NO_PLACES, SEVEN, TWELVE, Case

BAD_LOTS = (("b", "a"), ("a", "a"), ("a", "b", "b"), ("a", "c", "b"), ("b", "a", "c"), ("aa", "a"))


class PlaceTest(Case):

    def test_each_letter_alone_is_a_place(self):
        for letter in "abcdefghijklmnopqrstuvwxyz":
            self.assertIs(is_place(letter), True)

    def test_a_place_has_one_to_six_letters(self):
        for text in ("ab", "abc", "abcd", "abcde", "abcdef", "zzzzzz", "aaaaaa", "mnopqr"):
            self.assertIs(is_place(text), True)
            self.assertIs(is_place(text=text), True)

    def test_other_strings_are_no_places(self):
        for text in NO_PLACES:
            self.assertIs(is_place(text), False)

    def test_no_other_sign_may_stand_in_a_place(self):
        for number in range(32, 127):
            sign = chr(number)
            self.assertIs(is_place("a" + sign), "a" <= sign <= "z")
            self.assertIs(is_place(sign + "a"), "a" <= sign <= "z")

    def test_check_of_a_place(self):
        for place in ("a", "z", "abcdef"):
            self.assertIsNone(check_place(place))
            self.assertIsNone(check_place(place=place, places=None))
        for text in NO_PLACES:
            self.refused(BadPlace(text), check_place, text)
            self.refused(BadPlace(text), check_place, place=text, places=("a",))
            self.refused(BadPlace(text), check_place, text, places=())

    def test_check_of_a_place_over_a_world(self):
        self.assertIsNone(check_place("a", places=("a",)))
        self.assertIsNone(check_place("zzzzzz", places=TWELVE))
        self.assertIsNone(check_place(FORTY[-1], places=FORTY))
        self.refused(Unknown("k"), check_place, "k", places=TWELVE)
        self.refused(Unknown("aaa"), check_place, "aaa", places=("a", "aaaa"))

    def test_the_empty_tuple_is_the_world_without_places(self):
        self.refused(Unknown("a"), check_place, "a", places=())


class LotTest(Case):

    def test_make_lot_orders_the_names(self):
        self.same_kind(make_lot(["c", "a", "bb"]), ("a", "bb", "c"))
        self.same_kind(make_lot(("b", "a")), ("a", "b"))
        self.same_kind(make_lot(names=["ab", "a", "b", "aa"]), ("a", "aa", "ab", "b"))
        self.same_kind(make_lot(["a"]), ("a",))
        self.same_kind(make_lot([]), ())
        self.same_kind(make_lot(()), ())
        self.same_kind(make_lot(list(reversed(TWELVE))), TWELVE)

    def test_make_lot_takes_700_names(self):
        letters = "abcdefghijklmnopqrstuvwxyz"
        names = sorted(first + second for first in letters for second in letters) + ["b" + x + "a" for x in letters[:24]]
        self.assertEqual(len(names), 700)
        self.same_kind(make_lot(list(reversed(names))), tuple(sorted(names)))
        self.refused(Repeated("aa"), make_lot, names[:699] + ["aa"])
        self.refused(BadPlace("a1"), make_lot, ["aa"] * 699 + ["a1"])

    def test_make_lot_refuses_the_first_string_that_is_no_place(self):
        self.refused(BadPlace("B"), make_lot, ["a", "B", "C"])
        self.refused(BadPlace("C"), make_lot, ("C", "a", "B"))
        self.refused(BadPlace(""), make_lot, names=[""])
        for text in NO_PLACES:
            self.refused(BadPlace(text), make_lot, ["b", text])

    def test_make_lot_refuses_the_first_repeated_place_only_after_all_places(self):
        self.refused(Repeated("a"), make_lot, ["a", "b", "a", "b"])
        self.refused(Repeated("b"), make_lot, ["a", "b", "b", "a"])
        self.refused(Repeated("c"), make_lot, ("c", "a", "b", "c", "a"))
        self.refused(BadPlace("X"), make_lot, ["a", "a", "b", "X"])

    def test_make_lot_does_not_change_its_argument(self):
        names = ["c", "a", "b"]
        lot = make_lot(names)
        self.assertEqual(names, ["c", "a", "b"])
        names.append("d")
        self.assertEqual(lot, ("a", "b", "c"))
        self.assertEqual(make_lot(("c", "a", "b")), lot)

    def test_is_lot(self):
        for lot in ((), ("a",), ("a", "b"), ("a", "aa", "b"), TWELVE, FORTY):
            self.assertIs(is_lot(lot), True)
            self.assertIs(is_lot(names=lot), True)
        for lot in BAD_LOTS:
            self.assertIs(is_lot(lot), False)
        for text in NO_PLACES:
            self.assertIs(is_lot((text,)), False)
            self.assertIs(is_lot(("a", text)), False)
            self.assertIs(is_lot((text, "zzzzzz")), False)

    def test_check_of_a_lot(self):
        for lot in ((), ("a",), ("a", "b"), TWELVE, FORTY):
            self.assertIsNone(check_lot(lot))
            self.assertIsNone(check_lot(lot=lot, places=None))
            self.assertIsNone(check_lot(lot, places=lot))
        for lot in BAD_LOTS:
            self.refused(BadLot(lot), check_lot, lot)
            self.refused(BadLot(lot), check_lot, lot, places=("a",))
            self.refused(BadLot(lot), check_lot, lot, places=())

    def test_check_of_a_lot_asks_for_places_before_order(self):
        self.refused(BadPlace("B"), check_lot, ("b", "a", "B", "C"))
        self.refused(BadPlace("B"), check_lot, ("a", "B"))
        self.refused(BadPlace(""), check_lot, ("",), places=())

    def test_check_of_a_lot_over_a_world_comes_last(self):
        self.assertIsNone(check_lot(("a", "c"), places=("a", "b", "c")))
        self.assertIsNone(check_lot((), places=()))
        self.refused(Unknown("c"), check_lot, ("b", "c", "d"), places=("a", "b"))
        self.refused(Unknown("a"), check_lot, ("a", "b"), places=())
        self.refused(BadPlace("B"), check_lot, ("x", "B"), places=("a",))
        self.refused(BadLot(("x", "a")), check_lot, ("x", "a"), places=("a",))

    def test_check_of_a_world(self):
        for lot in ((), ("a",), SEVEN):
            self.assertIsNone(check_places(lot))
            self.assertIsNone(check_places(places=lot, most=7))
        self.refused(TooMany(7, 8), check_places, TWELVE[:8])
        self.refused(TooMany(7, 12), check_places, TWELVE)
        self.refused(TooMany(7, 40), check_places, FORTY)

    def test_check_of_a_world_with_another_bound(self):
        for most in range(13):
            self.assertIsNone(check_places(TWELVE[:most], most=most))
            if most < 12:
                self.refused(TooMany(most, most + 1), check_places, TWELVE[:most + 1], most=most)
        self.refused(TooMany(0, 12), check_places, TWELVE, most=0)

    def test_check_of_a_world_asks_for_a_lot_first(self):
        for lot in BAD_LOTS:
            self.refused(BadLot(lot), check_places, lot, most=1)
        self.refused(BadPlace("B"), check_places, ("b", "a", "B"), most=0)
        self.refused(BadLot(TWELVE[::-1]), check_places, TWELVE[::-1])


class LotsTest(Case):

    def test_union_common_and_minus(self):
        lots = [tuple(lot) for many in range(5) for lot in combinations(("a", "aa", "b", "c"), many)]
        for first in lots:
            for second in lots:
                union = tuple(p for p in ("a", "aa", "b", "c") if p in first or p in second)
                common = tuple(p for p in first if p in second)
                minus = tuple(p for p in first if p not in second)
                self.same_kind(lot_union(first, second), union)
                self.same_kind(lot_common(first, second), common)
                self.same_kind(lot_minus(first, second), minus)
                self.same_kind(lot_union(second=second, first=first), union)
                self.same_kind(lot_common(second=second, first=first), common)
                self.same_kind(lot_minus(second=second, first=first), minus)

    def test_lots_of_many_places_are_taken(self):
        self.same_kind(lot_union(FORTY[:20], FORTY[20:]), FORTY)
        self.same_kind(lot_common(FORTY, FORTY[3:9]), FORTY[3:9])
        self.same_kind(lot_minus(FORTY, FORTY[20:]), FORTY[:20])

    def test_the_first_lot_is_checked_before_the_second(self):
        for function in (lot_union, lot_common, lot_minus):
            self.refused(BadPlace("A"), function, ("A",), ("B",))
            self.refused(BadLot(("b", "a")), function, ("b", "a"), ("B",))
            self.refused(BadPlace("B"), function, ("a",), ("b", "a", "B"))
            self.refused(BadLot(("b", "a")), function, ("a",), ("b", "a"))
            self.refused(BadLot(("b", "b")), function, first=(), second=("b", "b"))
            self.refused(BadPlace("A"), function, second=("b", "b"), first=("A",))

    def test_sublots(self):
        self.same_kind(sublots(("a", "b")), [(), ("a",), ("a", "b"), ("b",)])
        self.same_kind(sublots(()), [()])
        self.same_kind(sublots(lot=("b",)), [(), ("b",)])
        self.same_kind(
            sublots(("a", "b", "c")),
            [(), ("a",), ("a", "b"), ("a", "b", "c"), ("a", "c"), ("b",), ("b", "c"), ("c",)],
        )
        wanted = sorted(lot for many in range(8) for lot in combinations(SEVEN, many))
        self.same_kind(sublots(SEVEN), wanted)
        self.assertEqual(len(wanted), 128)

    def test_sublots_refuses_more_than_seven_places(self):
        self.refused(TooMany(7, 8), sublots, TWELVE[:8])
        self.refused(TooMany(7, 40), sublots, lot=FORTY)
        self.refused(BadLot(TWELVE[::-1]), sublots, TWELVE[::-1])
        self.refused(BadPlace("A"), sublots, TWELVE + ("A",))

    def test_pairs_of(self):
        self.same_kind(pairs_of(("a", "b", "c")), [("a", "b"), ("a", "c"), ("b", "c")])
        self.same_kind(pairs_of(lot=("a", "aa")), [("a", "aa")])
        self.same_kind(pairs_of(()), [])
        self.same_kind(pairs_of(("a",)), [])
        self.same_kind(pairs_of(SEVEN), sorted(combinations(SEVEN, 2)))
        self.same_kind(pairs_of(FORTY), sorted(combinations(FORTY, 2)))

    def test_pairs_of_checks_the_lot(self):
        for lot in BAD_LOTS:
            self.refused(BadLot(lot), pairs_of, lot)
        self.refused(BadPlace("A"), pairs_of, ("b", "a", "A"))

    def test_returned_lists_are_new(self):
        self.fresh_list(sublots, ("a", "b", "c"))
        self.fresh_list(sublots, ())
        self.fresh_list(pairs_of, ("a", "b", "c"))
        self.fresh_list(pairs_of, ())


if __name__ == "__main__":
    unittest.main()
