"""Tests of keepsapart.leaveout: points [3] to [9] and [59] to [64] and the interface."""

import unittest
from itertools import combinations

from keepsapart.books import Book, full_book
from keepsapart.errors import BadLot, BadSaying, Disagree, NotKept, Repeated, Shared, TooMany, Unknown
from keepsapart.leaveout import (
    book_cone, book_hold, book_leave_out, cone, hold_always, inner_way, leave_out, part_web, seen_from, together,
)
from keepsapart.webs import Web, all_tied, no_ties
from tests.helper import (
    FIVE, SEVEN, TWELVE, Case, joined, kept_by, load, lots_of, triples, ways_in, web_keeps, webs_of_many, webs_up_to,
)

THREE = FIVE[:3]
FOUR = FIVE[:4]
LINE = Web(FOUR, [("a", "b"), ("b", "c"), ("c", "d")])
EMPTY = Web(())


def without(places, lot):
    return tuple(place for place in places if place not in lot)


def kept(web):
    """The set of the sayings that a web keeps, by the definition."""
    return kept_by(web.places, web.ties)


def book_by_definition(web):
    return Book(web.places, sorted(kept(web)))


def some_books():
    """Books over worlds of up to 5 places: of webs, full and empty ones, and some that are no web's."""
    found = [book_by_definition(web) for web in webs_up_to(3) + webs_up_to(4)[::5] + webs_of_many(FIVE, 4)]
    for many in range(6):
        sayings = triples(FIVE[:many])
        found += [Book(FIVE[:many], sayings[k::7][k::k + 2]) for k in range(5)] + [full_book(FIVE[:many])]
    return found


class InnerWayTest(Case):

    def test_inner_ways_are_the_shortest_of_the_definition(self):
        for web in webs_up_to(4) + webs_of_many(FIVE, 15):
            for a in web.places:
                for b in without(web.places, (a,)):
                    ways = [way for way in ways_in(web) if (way[0], way[-1]) == (a, b)]
                    for lot in lots_of(without(web.places, (a, b))):
                        found = sorted([way for way in ways if set(way[1:-1]) <= set(lot)], key=lambda w: (len(w), w))
                        self.same_kind(inner_way(web, a, b, lot), found[0] if found else None)

    def test_examples(self):
        self.same_kind(inner_way(LINE, "a", "b", ()), ("a", "b"))
        self.same_kind(inner_way(LINE, "b", "a", ("c", "d")), ("b", "a"))
        self.assertIsNone(inner_way(LINE, "a", "d", ("b",)))
        self.same_kind(inner_way(lot=("b", "c"), b="d", a="a", web=LINE), ("a", "b", "c", "d"))
        self.same_kind(inner_way(Web(SEVEN, list(zip(SEVEN, SEVEN[1:]))), "f", "a", SEVEN[1:6]), SEVEN[::-1])

    def test_checks(self):
        self.checks_place(lambda place: inner_way(LINE, place, "A", ("A",)))
        self.checks_place(lambda place: inner_way(LINE, "a", place, ("A",)))
        self.checks_lot(lambda lot: inner_way(LINE, "a", "a", lot))
        self.refused(BadLot(("b", "b")), inner_way, LINE, "b", "b", ("b",))
        self.refused(BadLot(("b", "b")), inner_way, LINE, "b", "b", ())
        self.refused(Shared("b"), inner_way, LINE, "b", "a", ("a", "b"))
        self.refused(Shared("a"), inner_way, LINE, "b", "a", ("a", "c"))
        self.refused(Shared("c"), inner_way, LINE, "c", "d", FOUR)
        self.refused(Unknown("a"), inner_way, EMPTY, "a", "a", ())


class LeaveOutTest(Case):

    def test_the_web_keeps_the_same_sayings_over_the_other_places(self):
        for web in webs_up_to(4) + webs_of_many(FIVE, 20):
            for lot in lots_of(web.places):
                found = leave_out(web, lot)
                others = without(web.places, lot)
                self.same_kind(found.places, others)
                self.assertEqual(kept(found), {saying for saying in triples(others) if saying in kept(web)})

    def test_ties_are_those_of_the_definition(self):
        for web in webs_up_to(4) + webs_of_many(SEVEN, 12):
            lots = lots_of(web.places)
            for lot in lots[::len(lots) // 20 + 1]:
                joins = {(way[0], way[-1]) for way in ways_in(web) if len(way) > 1 and set(way[1:-1]) <= set(lot)}
                pairs = combinations(without(web.places, lot), 2)
                self.same_kind(leave_out(web, lot).ties, tuple(pair for pair in pairs if pair in joins))

    def test_examples(self):
        star = Web(FIVE, [("a", "e"), ("b", "e"), ("c", "e")])
        self.assertEqual(leave_out(star, ("e",)), Web(FOUR, [("a", "b"), ("a", "c"), ("b", "c")]))
        self.assertEqual(leave_out(lot=("b", "c"), web=LINE), Web(("a", "d"), [("a", "d")]))
        self.assertEqual(leave_out(LINE, ("a", "d")), Web(("b", "c"), [("b", "c")]))
        for web in (LINE, star, EMPTY, all_tied(SEVEN), no_ties(SEVEN)):
            self.assertEqual(leave_out(web, ()), web)
            self.assertEqual(leave_out(web, web.places), EMPTY)

    def test_holding_strikes_the_places_with_their_ties(self):
        for web in webs_up_to(4) + webs_of_many(FIVE, 20):
            for lot in lots_of(web.places):
                found = hold_always(web, lot)
                others = without(web.places, lot)
                self.same_kind(found.places, others)
                self.same_kind(found.ties, tuple(tie for tie in web.ties if not set(tie) & set(lot)))
                wanted = {(x, z, y) for x, z, y in triples(others) if (x, joined(z, lot), y) in kept(web)}
                self.assertEqual(kept(found), wanted)
        self.assertEqual(hold_always(lot=("b",), web=LINE), Web(("a", "c", "d"), [("c", "d")]))
        self.assertEqual(hold_always(all_tied(SEVEN), ()), all_tied(SEVEN))

    def test_checks(self):
        for function in (leave_out, hold_always):
            self.checks_lot(lambda lot: function(LINE, lot))
            self.refused(Unknown("a"), function, EMPTY, ("a",))


class BookTest(Case):

    def test_leaving_out_of_a_book(self):
        for book in some_books():
            for lot in lots_of(book.places)[::3]:
                found = book_leave_out(book, lot)
                others = without(book.places, lot)
                self.same_kind(found.places, others)
                self.same_kind(found.sayings, tuple(saying for saying in triples(others) if saying in book))
            self.assertEqual(book_leave_out(book, ()), book)
            self.assertEqual(book_leave_out(lot=book.places, book=book), Book(()))

    def test_holding_in_a_book(self):
        for book in some_books():
            for lot in lots_of(book.places)[::3]:
                found = book_hold(book, lot)
                others = without(book.places, lot)
                self.same_kind(found.places, others)
                wanted = [(x, z, y) for x, z, y in triples(others) if (x, joined(z, lot), y) in book]
                self.same_kind(found.sayings, tuple(wanted))
            self.assertEqual(book_hold(lot=(), book=book), book)
            self.assertEqual(book_hold(book, book.places), Book(()))

    def test_the_book_of_a_web_is_treated_as_the_web(self):
        for web in webs_up_to(4)[::3] + webs_of_many(FIVE, 8):
            book = book_by_definition(web)
            for lot in lots_of(web.places):
                self.assertEqual(book_leave_out(book, lot), book_by_definition(leave_out(web, lot)))
                self.assertEqual(book_hold(book, lot), book_by_definition(hold_always(web, lot)))

    def test_checks(self):
        for function in (book_leave_out, book_hold):
            self.checks_lot(lambda lot: function(Book(FOUR), lot))
            self.refused(Unknown("a"), function, Book(()), ("a",))


class ConeTest(Case):

    def test_the_cone_of_a_web(self):
        for web in webs_up_to(4) + webs_of_many(SEVEN[:6], 20):
            for place in ("aaa", "ab", "zz"):
                found = cone(web, place)
                self.same_kind(found.places, joined(web.places, (place,)))
                ties = list(web.ties) + [joined((place,), (other,)) for other in web.places]
                self.same_kind(found.ties, tuple(sorted(ties)))
        self.assertEqual(cone(place="a", web=EMPTY), Web(("a",)))

    def test_the_book_of_a_cone_is_the_cone_of_the_book(self):
        for web in webs_up_to(4):
            found = book_cone(book_by_definition(web), "bb")
            self.assertEqual(found, book_by_definition(cone(web, "bb")))

    def test_the_cone_of_a_book(self):
        for book in some_books():
            if len(book.places) < 5:
                found = book_cone(book, "cc")
                self.same_kind(found.places, joined(book.places, ("cc",)))
                self.same_kind(found.sayings, tuple(sorted((x, joined(z, ("cc",)), y) for x, z, y in book.sayings)))
        self.assertEqual(book_cone(place="a", book=Book(())), Book(("a",)))

    def test_checks(self):
        self.checks_new_place(lambda place: cone(LINE, place))
        self.checks_new_place(lambda place: book_cone(Book(FOUR), place))
        self.refused(TooMany(7, 8), cone, no_ties(SEVEN), "x")
        self.refused(Repeated("a"), cone, no_ties(SEVEN), "a")
        self.refused(TooMany(5, 6), book_cone, Book(FIVE), "x")
        self.refused(TooMany(5, 6), book_cone, full_book(FIVE), "aa")
        self.refused(Repeated("e"), book_cone, Book(FIVE), "e")


class TogetherTest(Case):

    def pairs_of_webs(self):
        second = [Web(("b", "c", "x"), ties) for ties in ((), [("b", "c")], [("b", "x"), ("c", "x")], [("c", "x")])]
        second += [Web(("y", "z"), [("y", "z")]), EMPTY, Web(("b",)), all_tied(FOUR), LINE, no_ties(("c", "d", "e"))]
        return [(first, other) for first in webs_up_to(3) + webs_up_to(4)[::4] for other in second]

    def differing(self, first, second):
        both = [place for place in first.places if place in second.places]
        return [pair for pair in combinations(both, 2) if (pair in first.ties) != (pair in second.ties)]

    def test_webs_that_agree(self):
        agreeing = 0
        for first, second in self.pairs_of_webs():
            pairs = self.differing(first, second)
            if pairs:
                for function in (together, seen_from):
                    self.refused(Disagree(pairs[0]), function, first, second)
                    self.refused(Disagree(pairs[0]), function, second=first, first=second)
                continue
            agreeing += 1
            found = together(first, second)
            self.same_kind(found.places, tuple(sorted(set(first.places) | set(second.places))))
            self.same_kind(found.ties, tuple(sorted(set(first.ties) | set(second.ties))))
            self.assertEqual(together(second=first, first=second), found)
            self.check_shared(first, second, found)
            self.check_seen(first, second, found)
        self.assertGreater(agreeing, 100)

    def check_shared(self, first, second, found):
        shared = tuple(place for place in first.places if place in second.places)
        left, right = without(first.places, shared), without(second.places, shared)
        if left and right:
            self.assertIn((left, shared, right), kept(found))

    def check_seen(self, first, second, found):
        seen = seen_from(first, second)
        self.same_kind(seen.places, first.places)
        self.assertEqual(kept(seen), {saying for saying in triples(first.places) if saying in kept(found)})
        outside = without(second.places, first.places)
        joins = [way for way in ways_in(second) if way[0] < way[-1] and set(way[1:-1]) <= set(outside)]
        ties = {(way[0], way[-1]) for way in joins if not {way[0], way[-1]} & set(outside)}
        self.same_kind(seen.ties, tuple(sorted(ties | set(first.ties))))

    def test_worlds_without_a_common_place_and_equal_worlds(self):
        other = Web(("x", "y", "z"), [("x", "z")])
        self.assertEqual(together(LINE, other), Web(FOUR + ("x", "y", "z"), LINE.ties + other.ties))
        self.assertEqual(seen_from(LINE, other), LINE)
        self.assertEqual(together(LINE, LINE), LINE)
        self.assertEqual(seen_from(LINE, LINE), LINE)
        self.assertEqual(together(EMPTY, EMPTY), EMPTY)
        self.assertEqual(seen_from(EMPTY, LINE), EMPTY)
        self.assertEqual(seen_from(second=EMPTY, first=LINE), LINE)

    def test_the_first_web_is_seen_with_ways_through_the_second_one(self):
        second = Web(("a", "c", "x", "y"), [("a", "x"), ("x", "y"), ("c", "y")])
        first = Web(THREE, [("a", "b")])
        self.assertEqual(seen_from(first, second), Web(THREE, [("a", "b"), ("a", "c")]))
        self.assertEqual(seen_from(second, first), second)

    def test_checks(self):
        for function in (together, seen_from):
            self.refused(TooMany(7, 8), function, no_ties(SEVEN), Web(("x",)))
            self.refused(TooMany(7, 12), function, no_ties(TWELVE[:6]), no_ties(TWELVE[6:]))
            self.refused(TooMany(7, 8), function, EMPTY.with_place("x"), no_ties(SEVEN))
            self.refused(Disagree(("a", "aa")), function, no_ties(SEVEN), all_tied(("a", "aa", "b", "x", "y")))
            self.refused(Disagree(("b", "c")), function, LINE, no_ties(("b", "c", "d")))
            self.refused(Disagree(("c", "d")), function, LINE, Web(("b", "c", "d"), [("b", "c")]))


class PartWebTest(Case):

    def test_parted_webs_put_together_give_the_web_again(self):
        for web in webs_up_to(4) + webs_of_many(FIVE, 25):
            for saying in triples(web.places):
                x, z, y = saying
                if load(web.places, [saying]) > 0:
                    self.refused(BadSaying(saying), part_web, web, saying)
                elif not web_keeps(web, [saying]):
                    self.refused(NotKept(saying), part_web, web, saying)
                else:
                    found = part_web(web, saying)
                    self.assertIs(type(found), tuple)
                    first, second = found
                    for part, lot in ((first, joined(x, z)), (second, joined(z, y))):
                        self.same_kind(part.places, lot)
                        self.same_kind(part.ties, tuple(tie for tie in web.ties if set(tie) <= set(lot)))
                    self.assertEqual(together(first, second), web)

    def test_examples(self):
        first, second = part_web(saying=(("a",), ("b",), ("c", "d")), web=LINE)
        self.assertEqual(first, Web(("a", "b"), [("a", "b")]))
        self.assertEqual(second, Web(("b", "c", "d"), [("b", "c"), ("c", "d")]))
        self.assertEqual(part_web(no_ties(("a", "b")), (("b",), (), ("a",))), (Web(("b",)), Web(("a",))))

    def test_checks(self):
        self.checks_saying(lambda saying: part_web(LINE, saying))
        self.refused(Unknown("a"), part_web, EMPTY, (("a",), (), ("b",)))
        self.refused(BadSaying((("a",), (), ("b",))), part_web, LINE, (("a",), (), ("b",)))
        self.refused(NotKept((("a",), ("c", "d"), ("b",))), part_web, LINE, (("a",), ("c", "d"), ("b",)))


if __name__ == "__main__":
    unittest.main()
