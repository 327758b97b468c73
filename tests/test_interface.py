"""Tests that the interface stands where the document lists it: names, arguments, defaults, classes."""

import doctest
import importlib
import inspect
import pathlib
import unittest

README = pathlib.Path(__file__).resolve().parent.parent / "README.md"

FUNCTIONS = {
    "places": {
        "is_place": "(text)",
        "make_lot": "(names)",
        "is_lot": "(names)",
        "check_place": "(place, *, places=None)",
        "check_lot": "(lot, *, places=None)",
        "check_places": "(places, *, most=7)",
        "lot_union": "(first, second)",
        "lot_common": "(first, second)",
        "lot_minus": "(first, second)",
        "sublots": "(lot)",
        "pairs_of": "(lot)",
    },
    "webs": {
        "no_ties": "(places)",
        "all_tied": "(places)",
        "all_webs": "(places)",
        "web_within": "(small, big)",
        "induced": "(web, lot)",
    },
    "webtext": {
        "web_text": "(web)",
        "read_web": "(text)",
        "web_line": "(web)",
    },
    "sayings": {
        "make_saying": "(left, between, right)",
        "is_saying": "(places, saying)",
        "check_saying": "(saying, *, places=None)",
        "check_told": "(told, *, places=None)",
        "turned": "(saying)",
        "fewer": "(saying, place)",
        "more": "(saying, place)",
        "places_of": "(saying)",
        "outside_of": "(places, saying)",
        "is_full": "(places, saying)",
        "all_sayings": "(places)",
        "pair_saying": "(places, a, b)",
        "load_of": "(places, told)",
    },
    "ways": {
        "reached": "(web, starts, *, missing=())",
        "lumps_of": "(web, *, missing=())",
        "shortest_way": "(web, start, goal, *, missing=())",
        "distance": "(web, start, goal, *, missing=())",
        "all_ways": "(web, start, goal, *, missing=())",
        "is_way": "(web, way, start, goal, *, missing=())",
    },
    "apart": {
        "keeps": "(web, saying)",
        "apart_from": "(web, starts, *, missing=())",
        "verdict": "(web, saying)",
        "is_split": "(web, saying, split)",
        "is_crossing": "(web, saying, way)",
        "keeps_all": "(web, told)",
        "first_failing": "(web, told)",
    },
    "books": {
        "full_book": "(places)",
        "turn_book": "(book)",
        "book_within": "(small, big)",
        "first_difference": "(first, second)",
    },
    "saytext": {
        "saying_text": "(saying)",
        "read_saying": "(text)",
        "told_text": "(places, told)",
        "read_told": "(text)",
        "book_text": "(book)",
        "read_book": "(text)",
    },
    "rules": {
        "is_use": "(places, use)",
        "check_use": "(use, *, places=None)",
        "all_uses": "(places, *, rules=(1, 2, 3, 4, 5))",
        "uses_from": "(places, saying, *, rules=(1, 2, 3, 4, 5))",
        "uses_to": "(places, saying, *, rules=(1, 2, 3, 4, 5))",
        "use_text": "(use)",
        "read_use": "(text)",
    },
    "brokenrule": {
        "is_broken_use": "(book, use)",
        "broken_uses": "(book, *, rules=(1, 2, 3, 4, 5))",
        "broken_use": "(book, *, rules=(1, 2, 3, 4, 5))",
        "rules_broken": "(book)",
        "breaks_alone": "(book)",
        "closure": "(book, *, rules=(1, 2, 3, 4))",
        "singles_of": "(book)",
        "filled": "(book)",
        "sample_book": "(rule, places)",
        "small_book": "(places, number)",
    },
    "webof": {
        "web_of": "(book)",
        "book_of": "(web)",
        "is_web_book": "(book)",
        "pairs_apart": "(book)",
        "gap": "(book)",
        "both_ways": "(book)",
        "is_both_ways": "(book, paper)",
        "grow": "(book, saying)",
    },
    "steps": {
        "are_steps": "(places, known, goals, steps)",
        "is_lean": "(known, steps)",
        "grow_steps": "(places, saying, place, *, to_left=False)",
        "scatter_steps": "(places, saying)",
        "gather_steps": "(places, saying)",
        "steps_to": "(places, known, goal, *, rules=(1, 2, 3, 4))",
    },
    "greatwebs": {
        "extensions_of": "(places, saying)",
        "choices_of": "(places, told)",
        "web_of_choice": "(places, choice)",
        "choice_of": "(web, told)",
        "greatest_webs": "(places, told)",
        "is_greatest": "(web, told)",
        "great_above": "(web, told)",
        "keeping_webs": "(places, told)",
    },
    "alike": {
        "follows": "(places, told, goal)",
        "counterweb": "(places, told, goal)",
        "is_counterweb": "(web, told, goal)",
        "consequences": "(places, told)",
        "alike": "(places, first, second)",
        "unlike": "(places, first, second)",
        "is_unlike": "(places, first, second, paper)",
        "core_of": "(places, told)",
    },
    "trees": {
        "is_tree": "(places, told, goal, tree)",
        "tree_size": "(tree)",
        "tree_branches": "(told, tree)",
        "turns_of": "(web, tree)",
        "tree_text": "(tree)",
        "read_tree": "(text)",
    },
    "derive": {
        "derive": "(places, told, goal)",
        "answer": "(places, told, goal)",
        "is_answer": "(places, told, goal, paper)",
    },
    "walls": {
        "is_least_wall": "(web, saying)",
        "least_walls": "(web, left, right)",
        "wall_ways": "(web, saying)",
        "is_wall_paper": "(web, saying, ways)",
        "shrunk_wall": "(web, saying)",
    },
    "parting": {
        "parting_of": "(web, left, right)",
        "is_parting": "(web, left, right, wall, ways)",
        "cut_places": "(web)",
        "cut_pair": "(web, place)",
        "close": "(web, a, b)",
        "blocks_of": "(web)",
    },
    "leaveout": {
        "inner_way": "(web, a, b, lot)",
        "leave_out": "(web, lot)",
        "hold_always": "(web, lot)",
        "cone": "(web, place)",
        "book_leave_out": "(book, lot)",
        "book_hold": "(book, lot)",
        "book_cone": "(book, place)",
        "together": "(first, second)",
        "seen_from": "(first, second)",
        "part_web": "(web, saying)",
    },
    "askweb": {
        "find_web": "(asker)",
        "undecided": "(places, asked)",
        "agreeing_webs": "(places, log)",
        "tell_apart": "(first, second)",
    },
    "tables": {
        "holds": "(table, saying)",
        "uneven_cell": "(table, saying)",
        "crossed_evenly": "(table, a, b)",
        "table_web": "(table)",
        "table_book": "(table)",
        "table_of": "(web)",
        "web_failing": "(table, web)",
    },
    "papers": {
        "is_shown": "(paper)",
        "paper_of_saying": "(web, saying)",
        "paper_of_book": "(book)",
        "paper_of_goal": "(places, told, goal)",
        "paper_of_lists": "(places, first, second)",
        "paper_of_wall": "(web, saying)",
    },
    "papertext": {
        "paper_text": "(paper)",
        "read_paper": "(text)",
    },
    "script": {
        "run_script": "(lines)",
    },
}
CLASSES = {
    "webs": {
        "Web": {
            "__init__": "(self, places, ties=())",
            "tied": "(self, a, b)",
            "neighbours": "(self, place)",
            "with_tie": "(self, a, b)",
            "without_tie": "(self, a, b)",
            "with_place": "(self, place, *, tied_to=())",
            "without_place": "(self, place)",
            "__eq__": "(self, other)",
            "__ne__": "(self, other)",
            "__contains__": "(self, place)",
            "__iter__": "(self)",
            "__and__": "(self, other)",
            "__or__": "(self, other)",
        },
    },
    "books": {
        "Book": {
            "__init__": "(self, places, sayings=())",
            "with_saying": "(self, saying)",
            "without_saying": "(self, saying)",
            "__eq__": "(self, other)",
            "__ne__": "(self, other)",
            "__contains__": "(self, saying)",
            "__iter__": "(self)",
            "__and__": "(self, other)",
            "__or__": "(self, other)",
            "__sub__": "(self, other)",
        },
    },
    "askweb": {
        "Asker": {
            "__init__": "(self, web)",
            "__call__": "(self, saying)",
        },
    },
    "tables": {
        "Table": {
            "__init__": "(self, places, counts)",
            "at": "(self, cell)",
            "margin": "(self, lot)",
            "fixed": "(self, place, value)",
            "__eq__": "(self, other)",
            "__ne__": "(self, other)",
            "__mul__": "(self, other)",
        },
    },
    "desk": {
        "Desk": {
            "__init__": "(self, places=())",
            "__iter__": "(self)",
            "__contains__": "(self, saying)",
            "add_place": "(self, place)",
            "drop_place": "(self, place)",
            "tell": "(self, saying)",
            "untell": "(self, saying)",
            "shorten": "(self)",
            "back": "(self)",
            "forth": "(self)",
            "twin": "(self)",
            "greatest": "(self)",
            "goal_follows": "(self, goal)",
            "goal_counterweb": "(self, goal)",
            "goal_answer": "(self, goal)",
            "consequence_book": "(self)",
            "what_if": "(self, goal, *, extra=())",
        },
    },
    "papers": {
        "Paper": {
            "__init__": "(self, kind, *parts)",
            "__eq__": "(self, other)",
            "__ne__": "(self, other)",
        },
    },
}
PROPERTIES = {
    "webs": {"Web": ("places", "ties")},
    "books": {"Book": ("places", "sayings", "many")},
    "askweb": {"Asker": ("places", "asked", "log")},
    "tables": {"Table": ("places", "counts", "total")},
    "desk": {"Desk": ("places", "told", "load", "changes", "taken_back")},
    "papers": {"Paper": ("kind", "parts")},
}


def modules(table):
    """Each file of the table as a module, with its row."""
    return [(importlib.import_module("keepsapart." + name), row) for name, row in table.items()]


class InterfaceTest(unittest.TestCase):

    def test_functions(self):
        for module, row in modules(FUNCTIONS):
            for name, parameters in row.items():
                function = getattr(module, name)
                self.assertTrue(inspect.isfunction(function))
                self.assertEqual(function.__module__, module.__name__)
                self.assertEqual(str(inspect.signature(function)), parameters, name)

    def test_methods_stand_in_the_class_itself(self):
        for module, row in modules(CLASSES):
            for name, methods in row.items():
                made = getattr(module, name)
                self.assertEqual(made.__module__, module.__name__)
                for method, parameters in methods.items():
                    self.assertEqual(str(inspect.signature(vars(made)[method])), parameters, method)

    def test_properties_stand_in_the_class_itself_and_cannot_be_assigned(self):
        for module, row in modules(PROPERTIES):
            for name, properties in row.items():
                for word in properties:
                    found = vars(getattr(module, name))[word]
                    self.assertIsInstance(found, property)
                    self.assertIsNone(found.fset)

    def test_the_examples_of_the_readme(self):
        failed, tried = doctest.testfile(str(README), module_relative=False)
        self.assertEqual(failed, 0)
        self.assertGreater(tried, 0)


if __name__ == "__main__":
    unittest.main()
