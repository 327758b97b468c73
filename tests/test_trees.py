"""Tests of keepsapart.trees: points [49], [50], [52] and [53] and the interface."""

import unittest

from keepsapart.apart import keeps
from keepsapart.errors import BadSaying, BadText, TooMany, Unknown
from keepsapart.trees import is_tree, read_tree, tree_branches, tree_size, tree_text, turns_of
from keepsapart.webs import Web, all_tied, all_webs, no_ties
from tests.helper import (
    BAD, FIVE, FORTY, NO_LOTS, NO_SAYING_LINES, NO_SAYINGS, Case, derived_trees, nodes_of, proves, uses_over, web_keeps,
    written,
)

THREE = FIVE[:3]
FOUR = FIVE[:4]
AB, AC, BC = (("a",), (), ("b",)), (("a",), (), ("c",)), (("b",), (), ("c",))
BA, CB, CA = AB[::-1], BC[::-1], AC[::-1]
LEAF = ("leaf", ())
TURN = (1, (AB,), (BA,))
EITHER = (5, (AB,), (AC, CB))
WIDE = (FORTY[:15], FORTY[15:25], FORTY[25:])

# From a | | b either a | | c or c | | b holds. What follows is shown in each leaf by the steps that lead to it.
SMALL = ("case", (TURN,), EITHER, ("leaf", ((1, (AC,), (CA,)),)), ("leaf", ((1, (CB,), (BC,)), (3, (CB,), ((("c",), ("a",), ("b",)),)))))


def deep(many):
    """A tree with so many cases on one path, and a step in each node."""
    tree = ("leaf", (TURN,))
    for k in range(many):
        tree = ("case", (TURN,), EITHER, tree, LEAF) if k % 2 else ("case", (TURN, TURN), EITHER, LEAF, tree)
    return tree


def wide(many):
    """A tree in which every path has so many cases."""
    return LEAF if many == 0 else ("case", (), EITHER, wide(many - 1), wide(many - 1))


def size(tree):
    """The size of a tree by counting the nodes."""
    nodes = nodes_of(tree)
    leaves = [path for path, node in nodes if node[0] == "leaf"]
    return (len(leaves), len(nodes) - len(leaves), sum(len(node[1]) for _, node in nodes), max(map(len, leaves)))


def branches(told, tree, known=()):
    """The branches of a tree, by the definition."""
    held = list(told) + list(known) + [use[2][0] for use in tree[1]]
    if tree[0] == "leaf":
        return [tuple(sorted(set(held)))]
    return branches(held, tree[3], (tree[2][2][0],)) + branches(held, tree[4], (tree[2][2][1],))


def with_node(tree, path, node):
    """The tree with another node at the end of a path of 3 for left and 4 for right."""
    if not path:
        return node
    parts = list(tree)
    parts[path[0]] = with_node(parts[path[0]], path[1:], node)
    return tuple(parts)


def changed(tree, places):
    """Trees that differ from a tree at one node, right and wrong ones."""
    some_uses = uses_over(places)
    for path, node in nodes_of(tree):
        steps = node[1]
        for k in range(len(steps)):
            yield with_node(tree, path, node[:1] + (steps[:k] + steps[k + 1:],) + node[2:])
            yield with_node(tree, path, node[:1] + (steps + steps[k:k + 1],) + node[2:])
            yield with_node(tree, path, node[:1] + (steps[k:] + steps[:k],) + node[2:])
            rule, premises, conclusions = steps[k]
            for other in (
                (rule % 4 + 1, premises, conclusions), (5, premises, conclusions), (rule, conclusions, premises[:1]),
                (rule, premises[:1], conclusions), (rule, premises + premises, conclusions),
                (rule, premises, (conclusions[0][::-1],)), (rule, premises[::-1], conclusions),
                (rule, (premises[0],), ((("y",), (), ("z",)),)),
            ):
                if len(other[1]) < 3:
                    yield with_node(tree, path, node[:1] + (steps[:k] + (other,) + steps[k + 1:],) + node[2:])
        yield with_node(tree, path, LEAF)
        yield with_node(tree, path, ("leaf", steps))
        if node[0] == "case":
            _, _, (_, premises, (first, second)), left, right = node
            yield with_node(tree, path, node[:3] + (right, left))
            yield with_node(tree, path, node[:3] + (left, left))
            yield with_node(tree, path, node[:3] + (right, right))
            yield with_node(tree, path, left)
            for use in (
                (5, premises, (second, first)), (1, premises, (first, second)), (5, premises * 2, (first, second)),
                (5, (first,), (first, second)), (5, premises, (first, first)),
                (5, (("y",), (), ("z",)), ((("y",), (), ("x",)), (("x",), (), ("z",)))),
            ):
                if len(use[1]) < 3:
                    yield with_node(tree, path, node[:2] + (use,) + node[3:])
        for use in some_uses[::len(some_uses) // 7 + 1]:
            if use[0] < 5:
                yield with_node(tree, path, node[:1] + ((use,) + steps,) + node[2:])
            else:
                yield with_node(tree, path, ("case", steps, use, node, node))


class IsTreeTest(Case):

    def test_small_trees(self):
        self.assertIs(is_tree(THREE, [AB], BA, ("leaf", (TURN,))), True)
        self.assertIs(is_tree(THREE, [AB], AB, LEAF), True)
        self.assertIs(is_tree(THREE, [], AB, LEAF), False)
        self.assertIs(is_tree(THREE, [AB], BA, LEAF), False)
        self.assertIs(is_tree(THREE, [BA], BA, ("leaf", (TURN,))), False)
        self.assertIs(is_tree(tree=SMALL, goal=BA, told=(AB,), places=THREE), True)
        self.assertIs(is_tree(THREE, [AB], AB, SMALL), True)
        self.assertIs(is_tree(THREE, [AB], AC, SMALL), False)
        self.assertIs(is_tree(THREE, [AB], CB, SMALL), False)
        self.assertIs(is_tree(THREE, [AB, AC], AC, SMALL), True)
        self.assertIs(is_tree(FOUR, [AB], BA, SMALL), True)
        self.assertIs(is_tree(("a", "b"), [AB], BA, SMALL), False)

    def test_each_side_knows_its_own_conclusion_only(self):
        for told, goal, left, right, wanted in (
            ([AB], AC, LEAF, LEAF, False), ([AB], CB, LEAF, LEAF, False),
            ([AB, AC], AC, LEAF, LEAF, True), ([AB], AB, LEAF, LEAF, True),
            ([AB], CA, ("leaf", ((1, (AC,), (CA,)),)), ("leaf", ((1, (AC,), (CA,)),)), False),
            ([AB], BC, ("leaf", ((1, (CB,), (BC,)),)), ("leaf", ((1, (CB,), (BC,)),)), False),
            ([AB], BA, ("leaf", (TURN,)), LEAF, False), ([AB], BA, LEAF, ("leaf", (TURN,)), False),
            ([AB], BA, ("leaf", (TURN,)), ("leaf", (TURN,)), True),
        ):
            self.assertIs(is_tree(THREE, told, goal, ("case", (), EITHER, left, right)), wanted)

    def test_needless_steps_and_cases_are_allowed(self):
        again = ("case", (TURN, TURN), EITHER, ("case", (TURN,), EITHER, LEAF, LEAF), ("leaf", (TURN, TURN)))
        self.assertIs(is_tree(THREE, [AB, BA, AC], BA, again), True)
        self.assertIs(is_tree(THREE, [AB], BA, deep(8)), True)
        self.assertIs(is_tree(THREE, [AB], AB, wide(8)), True)
        self.assertIs(is_tree(THREE, [AB], AC, wide(8)), False)
        self.assertIs(is_tree(THREE, [AB] * 10, BA, deep(30)), True)
        self.assertIs(is_tree(THREE, [AB], BA, ("leaf", (TURN,) * 700)), True)

    def test_changed_trees_are_judged_as_the_definition_tells(self):
        right = wrong = 0
        for places, told, goal, tree in derived_trees()[::3]:
            self.assertIs(is_tree(places, told, goal, tree), True)
            for other in changed(tree, places):
                wanted = proves(places, told, goal, other)
                self.assertIs(is_tree(places, told, goal, other), wanted)
                right += wanted
                wrong += not wanted
        self.assertGreater(right, 500)
        self.assertGreater(wrong, 2000)

    def test_steps_and_cases_that_are_no_uses(self):
        outer = (("d",), (), ("e",))
        for use in ((1, (AB, AB), (BA,)), (2, (AB,), (BA,)), (5, (AB,), (AC,)), (1, (outer,), (outer[::-1],)),
                    (3, (AB,), ((("a",), ("d",), ("b",)),)), (1, (WIDE,), (WIDE[::-1],)), (4, (AB, BA), (BA,))):
            self.assertIs(is_tree(THREE, [AB, BA], AB, ("leaf", (use,))), False)
            self.assertIs(is_tree(THREE, [AB, BA], AB, ("case", (use,), EITHER, LEAF, LEAF)), False)
            self.assertIs(is_tree(THREE, [AB, BA], AB, ("case", (), EITHER, ("leaf", (use,)), LEAF)), False)
            self.assertIs(is_tree(THREE, [AB, BA], AB, ("case", (), EITHER, LEAF, ("leaf", (use,)))), False)
        for use in ((1, (AB,), (AC, CB)), (4, (AB,), (AC, CB)), (5, (AB, AB), (AC, CB)), (5, (AB,), (CB, AC)),
                    (5, (BA,), (AC, CB)), (5, (AC,), (AB, BC)), (5, (WIDE,), (WIDE, WIDE)), (5, (outer,), (outer, outer)),
                    (5, (AB,), ((("a",), (), ("d",)), (("d",), (), ("b",))))):
            self.assertIs(is_tree(THREE, [AB, BA], AB, ("case", (), use, LEAF, LEAF)), False)

    def test_checks(self):
        for tree in (LEAF, SMALL, ("leaf", ((1, (WIDE,), (WIDE,)),))):
            self.checks_world(lambda places: is_tree(places, [BAD] * 11, BAD, tree), 5)
            self.checks_list(lambda told: is_tree(FOUR, told, BAD, tree))
            self.checks_saying(lambda goal: is_tree(FOUR, [AB] * 10, goal, tree))
            self.refused(Unknown("a"), is_tree, (), [AB], AB, tree)


class SizeTest(Case):

    def test_sizes(self):
        self.same_kind(tree_size(LEAF), (1, 0, 0, 0))
        self.same_kind(tree_size(tree=("leaf", (TURN, TURN))), (1, 0, 2, 0))
        self.same_kind(tree_size(SMALL), (2, 1, 4, 1))
        self.same_kind(tree_size(deep(8)), (9, 8, 13, 8))
        self.same_kind(tree_size(wide(8)), (256, 255, 0, 8))
        self.same_kind(tree_size(("case", (), EITHER, wide(2), LEAF)), (5, 4, 0, 3))
        self.same_kind(tree_size(("case", (), EITHER, LEAF, wide(2))), (5, 4, 0, 3))
        for _, _, _, tree in derived_trees():
            self.same_kind(tree_size(tree), size(tree))
        self.same_kind(tree_size(deep(30))[3], 30)


class BranchesTest(Case):

    def test_branches(self):
        self.same_kind(tree_branches([AB], LEAF), [(AB,)])
        self.same_kind(tree_branches([], LEAF), [()])
        self.same_kind(tree_branches([BA, AB, BA], LEAF), [(AB, BA)])
        self.same_kind(
            tree_branches(tree=SMALL, told=(AB,)),
            [tuple(sorted((AB, BA, AC, CA))), tuple(sorted((AB, BA, CB, BC, (("c",), ("a",), ("b",)))))],
        )
        for places, told, goal, tree in derived_trees():
            found = tree_branches(told, tree)
            self.same_kind(found, branches(told, tree))
            self.assertEqual(len(found), tree_size(tree)[0])
            for branch in found:
                self.assertIn(goal, branch)
        self.assertEqual(len(tree_branches([AB], wide(8))), 256)
        self.fresh_list(tree_branches, [AB], SMALL)

    def test_whether_the_uses_are_right_does_not_matter(self):
        odd = (3, (WIDE, BA), (CB,))
        tree = ("case", (odd,), (2, (CA,), (WIDE, WIDE)), LEAF, ("leaf", (odd, TURN)))
        self.same_kind(tree_branches([], tree), [tuple(sorted((CB, WIDE))), tuple(sorted((CB, WIDE, BA)))])

    def test_the_told_list_is_checked_without_a_world(self):
        for tree in (LEAF, SMALL):
            self.refused(TooMany(10, 11), tree_branches, [BAD] * 11, tree)
            for lots, error in NO_LOTS:
                self.refused(error, tree_branches, [AB, lots, BAD], tree)
            for lots in NO_SAYINGS:
                self.refused(BadSaying(lots), tree_branches, (AB, lots, BAD), tree)
        self.same_kind(tree_branches([WIDE], LEAF), [(WIDE,)])
        told = [AB]
        tree_branches(told, SMALL)
        self.assertEqual(told, [AB])


class TurnsTest(Case):

    def test_turns(self):
        self.same_kind(turns_of(no_ties(THREE), LEAF), ())
        self.same_kind(turns_of(no_ties(THREE), SMALL), ("left",))
        self.same_kind(turns_of(tree=SMALL, web=all_tied(THREE)), ("right",))
        self.same_kind(turns_of(Web(THREE, [("b", "c")]), SMALL), ("left",))
        self.same_kind(turns_of(Web(THREE, [("a", "c")]), deep(3)), ("right", "right"))
        self.same_kind(turns_of(no_ties(THREE), deep(3)), ("left",))
        self.same_kind(turns_of(no_ties(THREE), deep(4)), ("left", "left"))
        self.same_kind(turns_of(all_tied(THREE), wide(8)), ("right",) * 8)
        self.same_kind(turns_of(no_ties(FIVE), wide(8)), ("left",) * 8)

    def test_the_leaf_that_a_web_comes_to_holds_what_it_keeps(self):
        for places, told, goal, tree in derived_trees():
            if len(places) < 5:
                paths = [tuple({3: "left", 4: "right"}[side] for side in path) for path, node in nodes_of(tree)
                         if node[0] == "leaf"]
                found = dict(zip(paths, tree_branches(told, tree), strict=True))
                for web in all_webs(places):
                    turns = turns_of(web, tree)
                    self.assertIn(turns, found)
                    if web_keeps(web, told):
                        self.assertTrue(web_keeps(web, found[turns]))
                        self.assertTrue(keeps(web, goal))


class TextTest(Case):

    def not_read(self, text, line):
        self.refused(BadText(line), read_tree, text)

    def test_written_trees(self):
        text = (
            "step 1 : a | | b : b | | a\ncase 5 : a | | b : a | | c ; c | | b\nstep 1 : a | | c : c | | a\nleaf\n"
            "step 1 : c | | b : b | | c\nstep 3 : c | | b : c | a | b\nleaf"
        )
        self.same_kind(tree_text(SMALL), text)
        self.same_kind(tree_text(tree=SMALL), text)
        self.same_kind(read_tree(text), SMALL)
        self.same_kind(read_tree(text=text), SMALL)
        self.same_kind(tree_text(LEAF), "leaf")
        self.same_kind(read_tree("leaf"), LEAF)

    def test_reading_a_written_tree_gives_an_equal_tree(self):
        trees = [deep(k) for k in range(9)] + [wide(k) for k in range(6)]
        trees += [tree for _, _, _, tree in derived_trees()]
        odd = (3, (WIDE, BA), (CB,))
        trees.append(("case", (odd,), (2, (CA,), (WIDE, WIDE)), LEAF, ("leaf", (odd, TURN))))
        for tree in trees + [deep(30)]:
            self.same_kind(read_tree(tree_text(tree)), tree)

    def test_the_left_tree_stands_first(self):
        case = "case 5 : a | | b : a | | c ; c | | b"
        lower = "case 5 : a | | b : a | | d ; d | | b"
        self.same_kind(read_tree(f"{case}\n{lower}\nleaf\nleaf\nstep 1 : a | | b : b | | a\nleaf"), (
            "case", (), EITHER, ("case", (), (5, (AB,), ((("a",), (), ("d",)), (("d",), (), ("b",)))), LEAF, LEAF),
            ("leaf", (TURN,)),
        ))
        self.assertNotEqual(read_tree(f"{case}\nleaf\n{case}\nleaf\nleaf"), read_tree(f"{case}\n{case}\nleaf\nleaf\nleaf"))

    def test_no_line_is_allowed_behind_a_tree(self):
        for tree in (LEAF, SMALL, deep(3)):
            text = tree_text(tree)
            many = text.count("\n") + 1
            for line in ("", " ", "leaf", "step 1 : a | | b : b | | a", "case 5 : a | | b : a | | c ; c | | b", "wrong"):
                self.not_read(text + "\n" + line, many + 1)
                self.not_read(text + "\n" + line + "\nwrong", many + 1)

    def test_trees_that_are_not_complete(self):
        for tree in (LEAF, SMALL, deep(3), wide(3)):
            lines = tree_text(tree).split("\n")
            for many in range(1, len(lines)):
                self.not_read("\n".join(lines[:many]), many + 1)
                self.not_read("\n".join(lines[:many] + ["wrong"]), many + 1)
        self.not_read("step 1 : a | | b : b | | a", 2)
        self.not_read("case 5 : a | | b : a | | c ; c | | b\nleaf", 3)
        self.not_read("", 1)
        self.not_read("\n", 1)
        self.not_read("\nleaf", 1)

    def test_lines_that_are_not_allowed(self):
        step, case = "1 : a | | b : b | | a", "5 : a | | b : a | | c ; c | | b"
        lines = [
            "", " ", "Leaf", "leaf ", " leaf", "leaf leaf", "leafs", "leaves", "le", "leaf " + step, "step", "step ", "case",
            "case ", "step " + case, "case " + step, "Step " + step, "Case " + case, " step " + step, " case " + case,
            "step  " + step, "case  " + case, "step " + step + " ", "case " + case + " ", "steps " + step, "use " + step,
            step, case, "say a | | b", "step 1 : a | | b : b | | a ; b | | a", "step 0 : a | | b : b | | a",
            "step 6 : a | | b : b | | a", "case 0 : a | | b : a | | c ; c | | b", "case 6 : a | | b : a | | c ; c | | b",
            "step 1 : a | | b ; a | | b ; a | | b : b | | a", "case 5 : a | | b : a | | c ; c | | b ; a | | c", "web a b",
            "step 1 : a | | b ; b | | a", "step : a | | b : b | | a", "case 5 : a | | b : a | | c;c | | b", "step step " + step,
        ]
        lines += [f"step 1 : {line} : a | | b" for line in NO_SAYING_LINES if ":" not in line and ";" not in line]
        lines += [f"case 5 : a | | b : {line} ; a | | b" for line in NO_SAYING_LINES if ":" not in line and ";" not in line]
        lines += [f"step 1 : {written(lots)} : a | | b" for lots in NO_SAYINGS]
        for line in lines:
            self.not_read(line, 1)
            self.not_read(line + "\nleaf", 1)
            self.not_read(f"step {step}\n{line}\nleaf", 2)
            self.not_read(f"case {case}\n{line}\nleaf\nleaf", 2)
            self.not_read(f"case {case}\nleaf\n{line}\nleaf", 3)

    def test_all_uses_of_the_right_shape_are_allowed(self):
        for use in uses_over(FOUR):
            word = "case" if use[0] == 5 else "step"
            tree = ("case", (), use, LEAF, LEAF) if use[0] == 5 else ("leaf", (use,))
            self.assertTrue(tree_text(tree).startswith(word))
            self.same_kind(read_tree(tree_text(tree)), tree)

    def test_long_texts(self):
        self.not_read("leaf\n" * 4000, 2)
        self.not_read("step 1 : a | | b : b | | a\n" * 700, 701)
        self.not_read("\n" * 20000, 1)
        text = "case 5 : a | | b : a | | c ; c | | b\nleaf\n" * 30 + "leaf"
        self.same_kind(tree_size(read_tree(text)), (31, 30, 0, 30))
        text = "case 5 : a | | b : a | | c ; c | | b\n" * 30 + "leaf" + "\nleaf" * 30
        self.same_kind(tree_size(read_tree(text)), (31, 30, 0, 30))
        self.same_kind(tree_text(read_tree(text)), text)


if __name__ == "__main__":
    unittest.main()
