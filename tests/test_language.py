"""Tests that the package keeps to the rules of LANGUAGE.md that a short test can see."""

import ast
import builtins
import pathlib
import re
import unittest

PACKAGE = pathlib.Path(__file__).resolve().parent.parent / "keepsapart"
LIBRARY = ("heapq", "math", "itertools", "collections")
BUILTINS = (
    "len range enumerate zip min max sum abs sorted reversed int str bool bytes list tuple dict set frozenset"
    " isinstance ord repr any all divmod pow getattr hasattr setattr iter next map property staticmethod classmethod"
    " super object NotImplemented Exception ValueError TypeError KeyError IndexError LookupError ZeroDivisionError"
    " ArithmeticError OverflowError RuntimeError NotImplementedError AttributeError StopIteration"
).split()
METHODS = (
    "append clear copy count endswith extend find get index insert isalnum isalpha isdigit islower isspace isupper"
    " items join keys ljust lower lstrip partition pop remove replace reverse rfind rjust rpartition rsplit rstrip"
    " setdefault split splitlines startswith strip update upper values zfill bit_length add discard"
).split()
DOUBLE = (
    "__init__ __eq__ __ne__ __repr__ __str__ __len__ __call__ __iter__ __contains__ __lt__ __le__ __gt__ __ge__"
    " __add__ __sub__ __mul__ __and__ __or__ __xor__"
).split()
MODIFYING = ("append", "clear", "extend", "insert", "pop", "remove", "reverse", "setdefault", "update", "add", "discard")
BARRED = (ast.AsyncFunctionDef, ast.AsyncFor, ast.AsyncWith, ast.Await, ast.Div, ast.Import)
BUILTIN_NAMES = dir(builtins)


def files():
    """The path and the tree of each file of the package."""
    return [(path, ast.parse(path.read_text(encoding="utf-8"))) for path in sorted(PACKAGE.glob("*.py"))]


def nodes(kind):
    """All nodes of this kind, each behind a word that tells where it stands."""
    return [
        (f"{path.name}:{getattr(node, 'lineno', 0)}", node)
        for path, tree in files() for node in ast.walk(tree) if isinstance(node, kind)
    ]


def named(node):
    """The names of a target, or of a value that is a name or a choice between names."""
    if isinstance(node, ast.IfExp):
        return named(node.body) | named(node.orelse)
    if isinstance(node, ast.BoolOp):
        return set().union(*[named(value) for value in node.values])
    return {node.id} if isinstance(node, ast.Name) else set()


def same_lists(function, name):
    """All names of a function that may stand for the list that this name stands for."""
    found = {name}
    rows = [node for node in ast.walk(function) if isinstance(node, ast.Assign)]
    groups = [named(row.value) | set().union(*[named(target) for target in row.targets]) for row in rows]
    while any(group & found and group - found for group in groups):
        for group in groups:
            found |= group if group & found else set()
    return found


def walked(loop):
    """The names of the lists that a loop goes over."""
    if isinstance(loop.iter, ast.Call) and isinstance(loop.iter.func, ast.Name):
        if loop.iter.func.id in ("enumerate", "zip", "reversed"):
            return set().union(*[named(value) for value in loop.iter.args])
    return named(loop.iter)


def modified(loop):
    """The names whose lists or dicts the rows of a loop modify."""
    found = set()
    for node in [node for row in loop.body for node in ast.walk(row)]:
        if isinstance(node, ast.Call) and isinstance(node.func, ast.Attribute) and node.func.attr in MODIFYING:
            found |= named(node.func.value)
        if isinstance(node, ast.Subscript) and not isinstance(node.ctx, ast.Load):
            found |= named(node.value)
        if isinstance(node, ast.AugAssign):
            found |= named(node.target)
    return found


class LanguageTest(unittest.TestCase):

    def test_the_folder_holds_plain_files_only(self):
        found = [path.name for path in PACKAGE.iterdir() if path.name != "__pycache__"]
        self.assertEqual(sorted(found), [path.name for path, _ in files()])
        for path, _ in files():
            self.assertTrue(path.stem == "__init__" or path.stem.isalnum() and path.stem.islower(), path.name)

    def test_lines_and_characters(self):
        for path, _ in files():
            text = path.read_text(encoding="utf-8")
            self.assertTrue(all(" " <= sign <= "~" or sign == "\n" for sign in text), path.name)
            self.assertLessEqual(text.count("\n"), 399, path.name)
            self.assertLessEqual(max(len(line) for line in text.split("\n")), 120, path.name)
            self.assertIsNone(re.search(r"\b_wall\b|_WallAttr", text), path.name)

    def test_functions_have_at_most_40_lines(self):
        for place, node in nodes(ast.FunctionDef):
            self.assertLessEqual(node.end_lineno - node.lineno + 1, 40, place)
            self.assertTrue(not node.name.startswith("__") or node.name in DOUBLE, place)
            for decorator in node.decorator_list:
                self.assertIn(ast.unparse(decorator), ("property", "staticmethod", "classmethod"), place)

    def test_modules_hold_definitions_and_plain_values(self):
        for path, tree in files():
            for node in tree.body[1:]:
                self.assertIsInstance(node, (ast.ImportFrom, ast.FunctionDef, ast.ClassDef, ast.Assign), path.name)
            self.assertIsNotNone(ast.get_docstring(tree), path.name)

    def test_barred_statements_and_expressions(self):
        for place, node in nodes(BARRED):
            self.fail(place + " " + type(node).__name__)
        for place, node in nodes(ast.Constant):
            self.assertNotIsInstance(node.value, (float, complex), place)
            self.assertNotIn("%", node.value if isinstance(node.value, str) else "", place)
        for place, node in nodes(ast.Compare):
            if any(isinstance(sign, (ast.Is, ast.IsNot)) for sign in node.ops):
                self.assertIn(ast.unparse(node.comparators[-1]), ("None", "True", "False"), place)

    def test_imports_name_the_file_that_defines_the_name(self):
        trees = {"keepsapart." + path.stem: tree for path, tree in files()}
        for place, node in nodes(ast.ImportFrom):
            self.assertEqual(node.level, 0, place)
            if node.module in LIBRARY:
                continue
            body = trees[node.module].body
            defined = [row.name for row in body if isinstance(row, (ast.FunctionDef, ast.ClassDef))]
            assigned = [row.targets[0].id for row in body if isinstance(row, ast.Assign)]
            for name in node.names:
                self.assertIn(name.name, defined + assigned, place)
                self.assertIsNone(name.asname, place)

    def test_no_two_files_import_from_each_other(self):
        waiting = {
            "keepsapart." + path.stem: {row.module for row in tree.body if isinstance(row, ast.ImportFrom)}
            for path, tree in files()
        }
        while waiting:
            free = [name for name, needs in waiting.items() if not needs & set(waiting)]
            self.assertNotEqual(free, [], sorted(waiting))
            for name in free:
                del waiting[name]

    def test_what_a_loop_walks_is_not_changed_in_it(self):
        for place, function in nodes(ast.FunctionDef):
            for loop in [node for node in ast.walk(function) if isinstance(node, ast.For)]:
                lists = set().union(*[same_lists(function, name) for name in walked(loop)])
                self.assertEqual(lists & modified(loop), set(), place + " " + function.name)

    def test_builtins(self):
        for place, node in nodes(ast.Name):
            if node.id in BUILTIN_NAMES:
                self.assertIn(node.id, BUILTINS, place)
                self.assertIsInstance(node.ctx, ast.Load, place)
        for place, node in nodes(ast.arg):
            self.assertNotIn(node.arg, BUILTIN_NAMES, place)

    def test_methods_are_own_ones_or_those_of_the_list(self):
        own = [node.name for _, node in nodes(ast.FunctionDef)]
        for place, node in nodes(ast.Call):
            if isinstance(node.func, ast.Attribute):
                self.assertIn(node.func.attr, own + METHODS + ["__init__"], place)

    def test_local_names_are_not_those_of_imports_and_classes(self):
        for path, tree in files():
            taken = [name.name for row in tree.body if isinstance(row, ast.ImportFrom) for name in row.names]
            taken += [row.name for row in tree.body if isinstance(row, (ast.FunctionDef, ast.ClassDef))]
            for node in ast.walk(tree):
                if isinstance(node, ast.Name) and isinstance(node.ctx, ast.Store):
                    self.assertNotIn(node.id, taken, path.name)
                if isinstance(node, ast.arg):
                    self.assertNotIn(node.arg, taken, path.name)


if __name__ == "__main__":
    unittest.main()
