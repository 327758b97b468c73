"""Tests of the program as a whole: points [1] to [3] and [6], and the three parts of the main result through papers."""

import copy
import importlib
import inspect
import unittest
from itertools import product

from keepsapart.alike import alike
from keepsapart.askweb import Asker, find_web
from keepsapart.books import Book
from keepsapart.brokenrule import broken_uses
from keepsapart.desk import Desk
from keepsapart.greatwebs import greatest_webs
from keepsapart.papers import (
    Paper, is_shown, paper_of_book, paper_of_goal, paper_of_lists, paper_of_saying, paper_of_wall,
)
from keepsapart.papertext import paper_text, read_paper
from keepsapart.tables import table_book, table_of, table_web
from keepsapart.walls import least_walls, shrunk_wall
from keepsapart.webof import book_of, is_web_book, web_of
from keepsapart.webs import Web, all_webs
from tests.helper import FIVE, Case, kept_by, load, some_told, triples, uses_over, web_keeps, webs_up_to
from tests.test_interface import CLASSES, FUNCTIONS

TWO = FIVE[:2]
THREE = FIVE[:3]
FOUR = FIVE[:4]
AB = (("a",), (), ("b",))
PART = (("a",), ("c",), ("b",))
FULL = (("a",), ("b",), ("c", "d"))
LINE = Web(FOUR, [("a", "b"), ("b", "c"), ("c", "d")])
TURN = (1, (AB,), (AB[::-1],))


def some_books():
    """All books over two places, and over three all that turning does not change and a spread of the others."""
    found = [Book(FIVE[:many]) for many in range(2)]
    for number in range(4):
        found.append(Book(TWO, [saying for k, saying in enumerate(triples(TWO)) if number >> k & 1]))
    sayings = triples(THREE)
    halves = [saying for saying in sayings if saying < saying[::-1]]
    for number in range(2 ** len(halves)):
        chosen = [saying for k, saying in enumerate(halves) if number >> k & 1]
        found.append(Book(THREE, chosen + [saying[::-1] for saying in chosen]))
    for number in range(0, 2 ** len(sayings), 509):
        found.append(Book(THREE, [saying for k, saying in enumerate(sayings) if number >> k & 1]))
    return found


class MainResultTest(Case):

    def shown(self, paper):
        """The paper is shown, and so is what is read of its text."""
        self.assertIs(is_shown(paper), True)
        again = read_paper(paper_text(paper))
        self.assertEqual(again, paper)
        self.assertIs(is_shown(again), True)

    def test_a_book_is_a_webs_if_and_only_if_no_use_is_broken_in_it(self):
        of_webs = 0
        for book in some_books():
            paper = paper_of_book(book)
            self.shown(paper)
            webs = [web for web in all_webs(book.places) if set(book.sayings) == kept_by(book.places, web.ties)]
            uses = [use for use in uses_over(book.places)
                    if set(use[1]) <= set(book.sayings) and not set(use[2]) & set(book.sayings)]
            self.assertEqual((paper.kind, len(webs)), ("broken", 0) if uses else ("web", 1))
            self.assertEqual(broken_uses(book), uses)
            self.assertIs(is_web_book(book), not uses)
            for web in all_webs(book.places):
                self.assertIs(is_shown(Paper("web", book, web)), web in webs)
            for use in uses_over(book.places)[::7]:
                self.assertIs(is_shown(Paper("broken", book, use)), use in uses)
            of_webs += len(webs)
        # Among the 512 books over three places that turning does not change are those of all eight webs.
        self.assertGreaterEqual(of_webs, 1 + 1 + 2 + 8)

    def test_the_book_of_each_web_and_what_is_one_saying_away_from_it(self):
        for web in webs_up_to(4):
            book = book_of(web)
            self.shown(paper_of_book(book))
            self.assertEqual(web_of(book), web)
            for saying in triples(web.places)[::9]:
                changed = book.without_saying(saying) if saying in book else book.with_saying(saying)
                paper = paper_of_book(changed)
                self.assertEqual(paper.kind, "broken")
                self.shown(paper)

    def test_a_goal_has_a_tree_of_cases_or_some_web_keeps_what_is_told_and_not_the_goal(self):
        kinds = {"tree": 0, "counter": 0}
        lists = [(THREE, list(told)) for many in range(3) for told in product(triples(THREE)[::2], repeat=many)]
        lists += [(FOUR, told) for told in some_told(FOUR, 4)[::3]] + [(TWO, [saying]) for saying in triples(TWO)]
        for places, told in [(places, told) for places, told in lists if load(places, told) <= 4]:
            for goal in triples(places)[::len(places)]:
                paper = paper_of_goal(places, told, goal)
                kept = [web for web in all_webs(places) if web_keeps(web, told)]
                wanted = "tree" if all(web_keeps(web, [goal]) for web in kept) else "counter"
                self.assertEqual(paper.kind, wanted)
                self.shown(paper)
                kinds[wanted] += 1
        self.assertGreater(min(kinds.values()), 300)

    def test_two_lists_are_kept_by_the_same_webs_if_and_only_if_their_greatest_webs_are_the_same(self):
        lists = [[]] + [[saying] for saying in triples(THREE)] + some_told(THREE, 6)[::5]
        kept = [[web.ties for web in all_webs(THREE) if web_keeps(web, told)] for told in lists]
        for one, other in product(range(len(lists)), repeat=2):
            first, second = lists[one], lists[other]
            same = kept[one] == kept[other]
            self.assertIs(alike(THREE, first, second), same)
            self.assertIs(greatest_webs(THREE, first) == greatest_webs(THREE, second), same)
            paper = paper_of_lists(THREE, first, second)
            self.assertIs(paper is None, same)
            if paper is not None:
                self.shown(paper)

    def test_papers_of_sayings_and_of_shrunk_walls(self):
        for web in webs_up_to(4)[::2]:
            for saying in triples(web.places)[::2]:
                paper = paper_of_saying(web, saying)
                self.assertEqual(paper.kind, "apart" if saying in kept_by(web.places, web.ties) else "way")
                self.shown(paper)
                if paper.kind == "apart":
                    left, _, right = saying
                    wall = shrunk_wall(web, saying)
                    self.assertIn(wall, least_walls(web, left, right))
                    self.shown(paper_of_wall(web, (left, wall, right)))

    def test_webs_books_tables_and_askers_tell_the_same(self):
        for web in webs_up_to(4)[::3]:
            table = table_of(web)
            self.assertEqual(table_book(table), book_of(web))
            self.assertEqual(table_web(table), web_of(book_of(web)))
            self.assertEqual(find_web(Asker(web)), table_web(table))


# A value for each name of a parameter; where a function takes another kind under this name, the next table tells.
VALUES = {
    "text": "a", "names": ["b", "a"], "place": "b", "lot": ("a", "b"), "places": FOUR, "left": ("a",),
    "right": ("c", "d"),
    "between": ("b",), "web": LINE, "saying": FULL, "told": [FULL, FULL[::-1]], "goal": FULL, "first": LINE,
    "second": Web(("c", "d", "x"), [("c", "d")]), "small": LINE, "big": Web(FOUR, LINE.ties), "starts": ("a",),
    "missing": ("c",), "start": "a", "way": ("a", "b", "c"), "split": FULL, "book": book_of(LINE), "use": TURN,
    "rules": (1, 2), "rule": 3, "number": 5, "paper": Paper("apart", LINE, FULL, FULL), "known": [AB], "goals": (AB,),
    "steps": [TURN], "to_left": True, "choice": [FULL], "tree": ("leaf", (TURN,)), "ways": [("a", "b", "c")],
    "wall": ("b",), "a": "a", "b": "b", "asker": Asker(LINE), "asked": [FULL, PART], "log": [(FULL, True)],
    "table": table_of(LINE), "lines": ["add a", "show"], "most": 5, "tied_to": ("a", "c"), "ties": [("a", "b")],
    "cell": (0, 1, 0, 1), "value": 1, "extra": [FULL],
}
OTHERS = {
    "with_place": {"place": "x"}, "cone": {"place": "x"}, "book_cone": {"place": "x"}, "add_place": {"place": "x"},
    "drop_place": {"place": "d"}, "untell": {"saying": AB},
    "inner_way": {"lot": ("c", "d")}, "shortest_way": {"goal": "b"}, "distance": {"goal": "b"},
    "all_ways": {"goal": "b"},
    "is_way": {"goal": "b"}, "read_web": {"text": "web a"}, "read_saying": {"text": "a | | b"},
    "read_told": {"text": "told a"},
    "read_book": {"text": "book a"}, "read_use": {"text": "1 : a | | b : b | | a"}, "read_tree": {"text": "leaf"},
    "read_paper": {"text": "paper web\nbook\nweb"}, "fewer": {"place": "c"}, "more": {"place": "x"},
    "lot_union": {"first": ("a",), "second": ("b",)}, "lot_common": {"first": ("a",), "second": ("b",)},
    "lot_minus": {"first": ("a",), "second": ("b",)}, "alike": {"first": [FULL], "second": [FULL[::-1]]},
    "unlike": {"first": [FULL], "second": [AB]},
    "is_unlike": {"first": [FULL], "second": [AB], "paper": ("first", LINE)},
    "paper_of_lists": {"first": [FULL], "second": [AB]}, "tell_apart": {"second": Web(FOUR)},
    "first_difference": {"first": book_of(LINE), "second": Book(FOUR)},
    "book_within": {"small": Book(FOUR), "big": book_of(LINE)}, "is_both_ways": {"paper": ("web", LINE)},
    "is_answer": {"paper": ("web", LINE)}, "small_book": {"places": THREE},
    "is_parting": {"left": ("a",), "right": ("c",)},
    "grow_steps": {"saying": AB, "place": "c"}, "make_saying": {"right": ["d", "c"]},
}
# How the objects are made whose methods are called; each call gets a new one.
OBJECTS = {
    "Web": lambda: Web(FOUR, LINE.ties), "Book": lambda: book_of(LINE), "Asker": lambda: Asker(LINE),
    "Table": lambda: table_of(LINE), "Desk": lambda: new_desk(),
}


def new_desk():
    """A desk with a told list, some changes, and one that was taken back."""
    desk = Desk(FOUR)
    for saying in (AB, AB, PART):
        desk.tell(saying)
    desk.back()
    return desk


def turned_kind(value):
    """An equal sequence of the other kind; any other value as it is."""
    return tuple(value) if isinstance(value, list) else value


class CallsTest(Case):

    def values_of(self, name, function):
        words = [word for word in inspect.signature(function).parameters if word != "self"]
        return {word: OTHERS.get(name, {}).get(word, VALUES[word]) for word in words}

    def check_calls(self, name, make):
        """Calls by position and by name, with lists and with tuples, give equal answers and change no argument."""
        function = make()
        values = self.values_of(name, function)
        before = copy.deepcopy({word: value for word, value in values.items() if word not in ("asker", "web", "paper")})
        rows = inspect.signature(function).parameters
        named = [word for word in values if rows[word].kind == inspect.Parameter.KEYWORD_ONLY]
        by_place = [value for word, value in values.items() if word not in named]
        answer = make()(*by_place, **{word: values[word] for word in named})
        self.assertEqual(make()(**values), answer, name)
        self.assertEqual(make()(**dict(reversed(list(values.items())))), answer, name)
        self.assertEqual(make()(**{word: turned_kind(value) for word, value in values.items()}), answer, name)
        self.assertEqual({word: value for word, value in values.items() if word in before}, before, name)
        if isinstance(answer, list):
            answer.append("changed")
            self.assertNotEqual(make()(**values), answer, name)

    def test_functions(self):
        for file, row in FUNCTIONS.items():
            module = importlib.import_module("keepsapart." + file)
            for name in row:
                self.check_calls(name, lambda: getattr(module, name))

    def test_methods(self):
        for file, classes in CLASSES.items():
            for made, methods in classes.items():
                # Two desks are not compared, so neither are twins.
                for name in [name for name in methods if not name.startswith("__") and name != "twin"]:
                    self.check_calls(name, lambda: getattr(OBJECTS[made](), name))


if __name__ == "__main__":
    unittest.main()
