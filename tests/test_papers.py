"""Tests of keepsapart.papers: points [3] to [9] and [77] to [79] and the interface."""

import unittest
from itertools import product

from keepsapart.alike import counterweb, follows, unlike
from keepsapart.apart import verdict
from keepsapart.books import Book
from keepsapart.brokenrule import broken_use, sample_book
from keepsapart.derive import answer
from keepsapart.errors import (
    BadKind, BadLot, BadPlace, BadRule, BadSaying, BadUse, NotKept, OtherPlaces, TooMany, Unknown,
)
from keepsapart.papers import (
    Paper, is_shown, paper_of_book, paper_of_goal, paper_of_lists, paper_of_saying, paper_of_wall,
)
from keepsapart.walls import wall_ways
from keepsapart.webof import book_of
from keepsapart.webs import Web, all_tied, all_webs, no_ties
from tests.helper import (
    BAD, FIVE, FORTY, NO_PLACES, SEVEN, TWELVE, Case, derived_trees, kept_by, load, proves, some_told, triples,
    use_set, uses_over, ways_in, web_keeps, webs_up_to,
)

TWO = FIVE[:2]
THREE = FIVE[:3]
FOUR = FIVE[:4]
AB = (("a",), (), ("b",))
BA = AB[::-1]
PART = (("a",), ("c",), ("b",))
LINE = Web(FOUR, [("a", "b"), ("b", "c"), ("c", "d")])
KEPT = (("a",), ("b",), ("c",))
SPLIT = (("a",), ("b",), ("c", "d"))
TURN = (1, (AB,), (BA,))
EITHER = (5, (AB,), ((("a",), (), ("c",)), (("c",), (), ("b",))))
LEAF = ("leaf", ())
CASE = ("case", (TURN,), EITHER, LEAF, ("leaf", (TURN,)))
BOOK = Book(THREE, [AB])
KINDS = {
    "apart": (LINE, KEPT, SPLIT),
    "way": (LINE, (("a",), ("d",), ("c",)), ("a", "b", "c")),
    "web": (book_of(LINE), LINE),
    "broken": (BOOK, TURN),
    "tree": (THREE, (AB,), BA, ("leaf", (TURN,))),
    "counter": (THREE, (AB,), (("a",), (), ("c",)), Web(THREE, [("a", "c")])),
    "unlike": (THREE, (AB,), (), "second", all_tied(THREE)),
    "wall": (LINE, KEPT, (("a", "b", "c"),)),
}


class MakeTest(Case):

    def test_kinds_and_parts(self):
        for kind, parts in KINDS.items():
            paper = Paper(kind, *parts)
            self.same_kind(paper.kind, kind)
            self.assertEqual(paper.parts, parts)
            self.assertIs(type(paper.parts), tuple)

    def test_told_lists_and_ways_become_tuples(self):
        told = [AB, BA]
        for kind, wanted in (
            ("tree", (THREE, (AB, BA), BA, LEAF)), ("counter", (THREE, (AB, BA), BA, all_tied(THREE))),
        ):
            paper = Paper(kind, THREE, told, *wanted[2:])
            self.assertEqual(paper.parts, wanted)
            self.assertEqual(Paper(kind, THREE, tuple(told), *wanted[2:]), paper)
        paper = Paper("unlike", THREE, told, [AB], "first", all_tied(THREE))
        self.assertEqual(paper.parts, (THREE, (AB, BA), (AB,), "first", all_tied(THREE)))
        ways = [("a", "b"), ("c",)]
        wall = Paper("wall", LINE, KEPT, ways)
        self.assertEqual(wall.parts, (LINE, KEPT, (("a", "b"), ("c",))))
        told.append(PART)
        ways.clear()
        self.assertEqual(paper.parts[1], (AB, BA))
        self.assertEqual(wall.parts[2], (("a", "b"), ("c",)))

    def test_equal_papers(self):
        papers = [Paper(kind, *parts) for kind, parts in KINDS.items()]
        papers += [Paper("apart", *KINDS["apart"][:2], KEPT), Paper("tree", THREE, (), BA, LEAF)]
        for first, second in product(range(len(papers)), repeat=2):
            self.assertIs(papers[first] == papers[second], first == second)
            self.assertIs(papers[first] != papers[second], first != second)
        # A split may look like ways.
        self.assertIs(papers[0] == Paper("wall", *KINDS["apart"]), False)
        again = [Paper(kind, *parts) for kind, parts in KINDS.items()]
        self.assertEqual(again, papers[:8])
        for other in ("apart", None, 3, LINE, BOOK, ("apart", *KINDS["apart"]), [], THREE):
            self.assertIs(papers[0] == other, False)
            self.assertIs(papers[0] != other, True)
            self.assertIs(other == papers[0], False)

    def test_a_paper_may_be_made_with_a_wrong_witness(self):
        for kind, parts in (
            ("apart", (LINE, AB, BA)), ("way", (LINE, KEPT, ("d",))), ("way", (LINE, KEPT, ("a", "a", "d", "a"))),
            ("web", (Book(THREE), no_ties(THREE))), ("broken", (Book(THREE), (3, (AB, BA), (PART, PART)))),
            ("tree", (THREE, [], AB, CASE)), ("tree", (THREE, [], AB, ("leaf", ((4, (AB,), (BA,)),)))),
            ("counter", (THREE, [AB], AB, all_tied(THREE))), ("unlike", (THREE, [], [], "first", no_ties(THREE))),
            ("wall", (LINE, AB, [])), ("wall", (LINE, AB, [("d", "d")] * 7)),
        ):
            self.assertIs(is_shown(Paper(kind, *parts)), False)


class CheckTest(Case):

    def test_the_kind_is_checked_first(self):
        for word in NO_PLACES + ("Apart", "aparts", "ways", "book", "trees", "ask", "places", "paper", "web a b"):
            for parts in ((), (LINE,), (LINE, BAD, BAD), (1,) * 9):
                self.refused(BadKind(word), Paper, word, *parts)
        self.refused(BadKind("x"), Paper, kind="x")

    def test_sayings_and_splits(self):
        for kind in ("apart", "way", "wall"):
            self.checks_saying(lambda lots: Paper(kind, LINE, lots, BAD if kind == "apart" else ()))
        self.checks_saying(lambda lots: Paper("apart", LINE, KEPT, lots))
        self.refused(Unknown("a"), Paper, "apart", Web(()), AB, BAD)

    def test_ways(self):
        for make in (
            lambda way: Paper("way", LINE, AB, way), lambda way: Paper("wall", LINE, AB, [("a",), way, ("A",)]),
            lambda way: Paper("wall", LINE, AB, (way,) * 7),
        ):
            self.refused(BadLot(()), make, ())
            for text in NO_PLACES:
                self.refused(BadPlace(text), make, (text,))
                self.refused(BadPlace(text), make, ("a", "d", "a", text, "x"))
            for way, place in ((("x",), "x"), (("b", "a", "x", "A"), "x"), (TWELVE, "aa"), (FORTY, "aa")):
                self.refused(Unknown(place), make, way)
        for way in (("a",), ("d", "a"), ("a", "a"), ("b", "c", "b"), ("a",) * 12):
            self.assertEqual(Paper("way", LINE, AB, way).parts[2], way)
            self.assertEqual(Paper("wall", LINE, AB, [way] * 7).parts[2], (way,) * 7)
        for many in (8, 9, 700):
            self.refused(TooMany(7, many), Paper, "wall", LINE, AB, [()] * many)
        self.assertEqual(Paper("wall", LINE, AB, []).parts[2], ())

    def test_webs_that_are_not_the_first_part(self):
        for web in (Web(()), no_ties(TWO), all_tied(FOUR), all_tied(("a", "b", "d")), no_ties(SEVEN)):
            error = OtherPlaces(THREE, web.places)
            self.refused(error, Paper, "web", BOOK, web)
            self.refused(error, Paper, "counter", THREE, [], AB, web)
            self.refused(error, Paper, "unlike", THREE, [], [], "first", web)

    def test_uses(self):
        make = lambda use: Paper("broken", Book(FOUR), use)
        for rule in (0, 6, -1, 999999999):
            self.refused(BadRule(rule), make, (rule, (), (BAD,)))
        for many in ((0, 1), (1, 0), (3, 1), (1, 3), (0, 0), (700, 1)):
            use = (2, (BAD,) * many[0], (BAD,) * many[1])
            self.refused(BadUse(use), make, use)
        self.checks_saying(lambda lots: make((1, (lots, BAD), (BAD,))))
        self.checks_saying(lambda lots: make((1, (AB, lots), (BAD,))))
        self.checks_saying(lambda lots: make((1, (AB,), (lots, BAD))))
        self.checks_saying(lambda lots: make((1, (AB,), (BA, lots))))
        self.assertEqual(make((5, (AB, AB), (AB, AB))).parts[1], (5, (AB, AB), (AB, AB)))

    def test_worlds_told_lists_and_goals(self):
        self.checks_world(lambda places: Paper("tree", places, [BAD] * 11, BAD, LEAF), 5)
        self.checks_world(lambda places: Paper("counter", places, [BAD] * 11, BAD, LINE), 7)
        self.checks_world(lambda places: Paper("unlike", places, [BAD] * 11, [BAD], "x", LINE), 7)
        self.checks_list(lambda told: Paper("tree", FOUR, told, BAD, LEAF))
        self.checks_list(lambda told: Paper("counter", FOUR, told, BAD, no_ties(TWO)))
        self.checks_list(lambda told: Paper("unlike", FOUR, told, [BAD], "x", no_ties(TWO)))
        self.checks_list(lambda told: Paper("unlike", FOUR, [AB], told, "x", no_ties(TWO)))
        self.checks_saying(lambda goal: Paper("tree", FOUR, [AB] * 10, goal, LEAF))
        self.checks_saying(lambda goal: Paper("counter", FOUR, [], goal, no_ties(TWO)))

    def test_sides(self):
        for word in NO_PLACES + ("First", "third", "firs", "both", "first ", "second\n", "web"):
            self.refused(BadKind(word), Paper, "unlike", THREE, [AB], [], word, no_ties(TWO))
        for word in ("first", "second"):
            self.refused(OtherPlaces(THREE, TWO), Paper, "unlike", THREE, [AB], [], word, no_ties(TWO))
            self.assertEqual(Paper("unlike", THREE, [AB], [], word, no_ties(THREE)).parts[3], word)

    def test_the_sayings_of_a_tree_are_checked_in_the_order_of_its_text(self):
        unknown = [(("a",), (), ("p" + letter,)) for letter in "abcdefgh"]
        tree = (
            "case", ((1, (unknown[0],), (unknown[1],)),), (5, (unknown[2],), (unknown[3], unknown[4])),
            ("leaf", ((1, (unknown[5],), (AB,)),)), ("leaf", ((4, (AB, unknown[6]), (unknown[7],)),)),
        )
        for saying in unknown:
            self.refused(Unknown(saying[2][0]), Paper, "tree", THREE, [], AB, tree)
            tree = self.replaced(tree, saying)
        self.assertEqual(Paper("tree", THREE, [], AB, tree).parts[3], tree)
        self.refused(Unknown("b"), Paper, "tree", ("a", "c"), [], (("a",), (), ("c",)), ("leaf", (TURN,)))

    def replaced(self, value, saying):
        if value == saying:
            return AB
        if isinstance(value, tuple):
            return tuple(self.replaced(item, saying) for item in value)
        return value


class ShownTest(Case):

    def test_papers_of_webs(self):
        for web in webs_up_to(3):
            ways = ways_in(web)
            for saying in triples(web.places):
                left, between, right = saying
                crossings = [w for w in ways if w[0] in left and w[-1] in right and not set(w) & set(between)]
                for way in [w for many in range(1, 4) for w in product(web.places, repeat=many)]:
                    self.assertIs(is_shown(Paper("way", web, saying, way)), way in crossings)
                for split in triples(web.places):
                    wanted = (
                        load(web.places, [split]) == 0 and split[1] == between and set(left) <= set(split[0])
                        and set(right) <= set(split[2]) and split in kept_by(web.places, web.ties)
                    )
                    self.assertIs(is_shown(Paper("apart", web, saying, split)), wanted)

    def test_papers_of_walls(self):
        for web in webs_up_to(4)[-40:]:
            for saying in triples(web.places)[::3]:
                left, between, right = saying
                kept = saying in kept_by(web.places, web.ties)
                rows = [[way for way in ways_in(web) if way[0] in left and way[-1] in right
                         and not set(way) & set(between) - {place}] for place in between]
                ways = [row[0] if row else (left[0], right[0]) for row in rows]
                self.assertIs(is_shown(Paper("wall", web, saying, ways)), kept and all(rows))
                turned = [way[::-1] for way in ways]
                for other in (ways[:-1], ways + ways[:1], ways[::-1], turned, [("a", "a")] * len(ways)):
                    wanted = kept and len(other) == len(rows) and all(way in row for way, row in zip(other, rows))
                    self.assertIs(is_shown(Paper("wall", web, saying, other)), wanted)

    def test_papers_of_books(self):
        for web in webs_up_to(3):
            book = Book(web.places, sorted(kept_by(web.places, web.ties)))
            for other in all_webs(web.places):
                self.assertIs(is_shown(Paper("web", book, other)), other == web)
            for saying in triples(web.places):
                changed = book.without_saying(saying) if saying in book else book.with_saying(saying)
                self.assertIs(is_shown(Paper("web", changed, web)), False)
                for use in uses_over(web.places):
                    broken = set(use[1]) <= set(changed.sayings) and not set(use[2]) & set(changed.sayings)
                    self.assertIs(is_shown(Paper("broken", changed, use)), broken)

    def test_shaped_uses_that_are_none_show_nothing(self):
        sayings = triples(THREE)
        for rule, first, second in product(range(1, 6), sayings[::4], sayings[::5]):
            use = (rule, (first,), (second,))
            wanted = use in use_set(THREE) and first != second
            self.assertIs(is_shown(Paper("broken", Book(THREE, [first]), use)), wanted)

    def test_papers_of_goals(self):
        for places, told, goal, tree in derived_trees():
            self.assertIs(is_shown(Paper("tree", places, told, goal, tree)), True)
            for wrong in (goal[::-1], PART[::-1]):
                paper = Paper("tree", places, told, wrong, tree)
                self.assertIs(is_shown(paper), proves(places, told, wrong, tree))
            self.assertIs(is_shown(Paper("tree", places, told[1:], goal, tree)), proves(places, told[1:], goal, tree))
        for told in some_told(THREE, 9)[::3]:
            for goal in triples(THREE)[::2]:
                for web in all_webs(THREE):
                    wanted = web_keeps(web, told) and not web_keeps(web, [goal])
                    self.assertIs(is_shown(Paper("counter", THREE, told, goal, web)), wanted)

    def test_trees_that_are_none(self):
        for told, tree, wanted in (
            ([AB], ("leaf", (TURN,)), True), ([AB], LEAF, False), ([], ("leaf", (TURN,)), False), ([BA], LEAF, True),
            ([AB], CASE, True), ([BA], CASE, False), ([AB], ("leaf", ((2, (AB,), (BA,)),)), False),
            ([AB], ("leaf", (TURN, TURN)), True),
            ([AB], ("case", (TURN,), EITHER, LEAF, LEAF), True), ([BA], ("case", (), EITHER, LEAF, LEAF), False),
            ([AB], ("case", (), (4,) + EITHER[1:], ("leaf", (TURN,)), ("leaf", (TURN,))), False),
            ([AB], ("case", (), EITHER, ("leaf", (TURN,)), LEAF), False),
        ):
            self.assertIs(is_shown(Paper("tree", THREE, told, BA, tree)), wanted)

    def test_papers_of_lists(self):
        lists = some_told(THREE, 6)[::9]
        for first, second in product(lists, lists):
            for web in all_webs(THREE):
                keeps = (web_keeps(web, first), web_keeps(web, second))
                self.assertIs(is_shown(Paper("unlike", THREE, first, second, "first", web)), keeps == (True, False))
                self.assertIs(is_shown(Paper("unlike", THREE, first, second, "second", web)), keeps == (False, True))

    def test_worlds_at_their_bounds(self):
        saying = (("a",), SEVEN[2:], ("aa",))
        self.assertIs(is_shown(Paper("counter", SEVEN, [], saying, all_tied(SEVEN))), True)
        self.assertIs(is_shown(Paper("counter", SEVEN, [saying] * 10, saying, no_ties(SEVEN))), False)
        self.assertIs(is_shown(Paper("unlike", SEVEN, [saying] * 10, (), "second", all_tied(SEVEN))), True)
        self.assertIs(is_shown(Paper("tree", FIVE, [AB] * 10, BA, ("leaf", (TURN,)))), True)
        self.assertIs(is_shown(paper=Paper("web", Book(()), Web(()))), True)


class MakersTest(Case):

    def test_papers_of_sayings(self):
        for web in webs_up_to(4)[::2]:
            for saying in triples(web.places):
                paper = paper_of_saying(web, saying)
                word, witness = verdict(web, saying)
                self.assertEqual((paper.kind, paper.parts), (word, (web, saying, witness)))
                self.assertIs(is_shown(paper), True)
        self.assertEqual(paper_of_saying(saying=KEPT, web=LINE), Paper("apart", LINE, KEPT, SPLIT))
        self.checks_saying(lambda saying: paper_of_saying(LINE, saying))

    def test_papers_of_the_books_of_webs_and_of_other_books(self):
        for web in webs_up_to(4)[::2]:
            book = book_of(web)
            self.assertEqual(paper_of_book(book), Paper("web", book, web))
            self.assertIs(is_shown(paper_of_book(book=book)), True)
        for rule in range(1, 6):
            book = sample_book(rule, FOUR)
            paper = paper_of_book(book)
            self.assertEqual(paper, Paper("broken", book, broken_use(book)))
            self.assertEqual((paper.parts[1][0], is_shown(paper)), (rule, True))

    def test_papers_of_goals(self):
        kinds = set()
        for told in some_told(FOUR, 4)[::7]:
            for goal in triples(FOUR)[::13] + told:
                paper = paper_of_goal(FOUR, told, goal)
                self.assertIs(paper.kind == "tree", follows(FOUR, told, goal))
                self.assertEqual(paper.parts[:3], (FOUR, tuple(told), goal))
                if paper.kind == "tree":
                    self.assertTrue(proves(FOUR, told, goal, paper.parts[3]))
                else:
                    self.assertEqual(paper.parts[3], counterweb(FOUR, told, goal))
                self.assertEqual(paper_of_goal(goal=goal, told=tuple(told), places=FOUR), paper)
                self.assertIs(is_shown(paper), True)
                kinds.add(paper.kind)
        self.assertEqual(kinds, {"tree", "counter"})

    def test_checks_of_papers_of_goals(self):
        self.checks_world(lambda places: paper_of_goal(places, [BAD] * 11, BAD), 5)
        self.checks_list(lambda told: paper_of_goal(FOUR, told, BAD))
        self.checks_saying(lambda goal: paper_of_goal(FOUR, [AB] * 10, goal))
        self.refused(TooMany(4, 5), paper_of_goal, THREE, [AB] * 5, AB)
        self.refused(TooMany(4, 5), paper_of_goal, THREE, [AB] * 5, (("a",), (), ("c",)))
        self.assertEqual(answer(THREE, [], AB), ("web", all_tied(THREE)))
        self.assertEqual(paper_of_goal(THREE, [], AB), Paper("counter", THREE, (), AB, all_tied(THREE)))

    def test_papers_of_lists(self):
        lists = some_told(FOUR, 6)[::8]
        for first, second in product(lists, lists[::2]):
            paper = paper_of_lists(FOUR, first, second)
            found = unlike(FOUR, first, second)
            if found is None:
                self.assertIsNone(paper)
            else:
                self.assertEqual((paper.kind, paper.parts), ("unlike", (FOUR, tuple(first), tuple(second)) + found))
                self.assertIs(is_shown(paper), True)
                self.assertEqual(paper_of_lists(second=tuple(second), first=tuple(first), places=FOUR), paper)
        self.checks_world(lambda places: paper_of_lists(places, [BAD] * 11, []), 7)
        self.checks_list(lambda told: paper_of_lists(FOUR, told, [BAD] * 11))
        self.checks_list(lambda told: paper_of_lists(FOUR, [AB] * 10, told))
        self.refused(TooMany(6, 7), paper_of_lists, THREE, [AB] * 7, [AB] * 8)
        self.refused(TooMany(6, 8), paper_of_lists, THREE, [AB], [AB] * 8)

    def test_papers_of_walls(self):
        for web in webs_up_to(4):
            for saying in sorted(kept_by(web.places, web.ties))[::2]:
                paper = paper_of_wall(web, saying)
                ways = wall_ways(web, saying)
                if ways is None:
                    self.assertIsNone(paper)
                else:
                    self.assertEqual((paper.kind, paper.parts), ("wall", (web, saying, tuple(ways))))
                    self.assertIs(is_shown(paper), True)
        self.assertEqual(paper_of_wall(saying=KEPT, web=LINE), Paper("wall", LINE, KEPT, [("a", "b", "c")]))
        self.assertEqual(paper_of_wall(no_ties(TWO), AB), Paper("wall", no_ties(TWO), AB, ()))
        self.assertIs(is_shown(paper_of_wall(no_ties(TWO), AB)), True)
        self.assertIsNone(paper_of_wall(LINE, (("a",), ("b", "c"), ("d",))))

    def test_checks_of_papers_of_walls(self):
        self.checks_saying(lambda saying: paper_of_wall(LINE, saying))
        self.refused(NotKept(AB), paper_of_wall, LINE, AB)
        self.refused(NotKept(PART), paper_of_wall, all_tied(SEVEN), PART)
        self.refused(BadSaying(((), (), ())), paper_of_wall, Web(()), ((), (), ()))

    def test_seven_places_and_five_wall_ways(self):
        web = Web(SEVEN, [("a", place) for place in SEVEN[1:6]] + [(place, "f") for place in SEVEN[1:6]])
        paper = paper_of_wall(web, (("a",), SEVEN[1:6], ("f",)))
        self.assertEqual(paper.parts[2], tuple(("a", place, "f") for place in SEVEN[1:6]))
        self.assertIs(is_shown(paper), True)


if __name__ == "__main__":
    unittest.main()
