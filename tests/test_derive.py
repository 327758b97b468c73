"""Tests of keepsapart.derive: points [47], [50] and [51] and the interface."""

import unittest

from keepsapart.alike import counterweb, follows
from keepsapart.derive import answer, derive, is_answer
from keepsapart.errors import TooMany, Unknown
from keepsapart.trees import is_tree, tree_size
from keepsapart.webs import Web, all_tied, all_webs, no_ties
from tests.helper import (
    BAD, FIVE, NO_PLACES, SEVEN, Case, derived_trees, load, nodes_of, proves, some_told, triples, web_keeps,
)

TWO = FIVE[:2]
THREE = FIVE[:3]
FOUR = FIVE[:4]
AB = (("a",), (), ("b",))
PART = (("a",), ("c",), ("b",))
LEAF = ("leaf", ())


def has_properties(told, tree, most):
    """True if the tree has the three properties of point [51], where a path has at most so many cases."""
    held = set(told)
    for use in tree[1]:
        if use[2][0] in held:
            return False
        held.add(use[2][0])
    if tree[0] == "leaf":
        return True
    first, second = tree[2][2]
    if most == 0 or first in held or second in held:
        return False
    return has_properties(held | {first}, tree[3], most - 1) and has_properties(held | {second}, tree[4], most - 1)


class DeriveTest(Case):

    def check_tree(self, places, told, goal, tree):
        for _, node in nodes_of(tree):
            self.assertIn((node[0], len(node)), (("leaf", 2), ("case", 5)))
            self.assertIs(type(node[1]), tuple)
        self.assertTrue(proves(places, told, goal, tree))
        self.assertIs(is_tree(places, told, goal, tree), True)
        self.assertTrue(has_properties(told, tree, load(places, told)))
        leaves, _, _, depth = tree_size(tree)
        self.assertLessEqual(leaves, 16)
        self.assertLessEqual(depth, load(places, told))

    def test_every_goal_over_small_worlds_is_derived_if_and_only_if_it_follows(self):
        found = 0
        for places in (TWO, THREE, FOUR):
            for told in some_told(places, 4)[::2]:
                kept = [set(s for s in triples(places) if web_keeps(web, [s]))
                        for web in all_webs(places) if web_keeps(web, told)]
                for goal in triples(places)[::5] + told:
                    tree = derive(places, told, goal)
                    if all(goal in sayings for sayings in kept):
                        self.check_tree(places, told, goal, tree)
                        found += 1
                    else:
                        self.assertIsNone(tree)
        self.assertGreater(found, 300)

    def test_trees_with_cases(self):
        depths = set()
        for places, told, goal, tree in derived_trees():
            self.check_tree(places, told, goal, tree)
            depths.add(tree_size(tree)[3])
        self.assertEqual(depths, {0, 1, 2, 3, 4})

    def test_goals_over_five_places(self):
        for told in some_told(FIVE, 4)[::6]:
            for goal in triples(FIVE)[::71] + told:
                tree = derive(FIVE, told, goal)
                self.assertIs(tree is None, not follows(FIVE, told, goal))
                if tree is not None:
                    self.check_tree(FIVE, told, goal, tree)

    def test_a_goal_that_is_told_is_a_leaf_at_once(self):
        for goal in triples(THREE):
            tree = derive(THREE, [goal], goal)
            self.assertEqual(tree_size(tree)[:2], (1, 0))
            self.check_tree(THREE, [goal], goal, tree)
        self.check_tree(THREE, [AB, AB, PART, AB], AB, derive(THREE, [AB, AB, PART, AB], AB))

    def test_the_tree_of_a_list_without_load_is_a_leaf(self):
        full = [saying for saying in triples(FIVE) if sum(map(len, saying)) == 5]
        for k in range(0, 180, 20):
            told = [full[k % len(full)], full[(k * 7 + 1) % len(full)], full[(k + 30) % len(full)]]
            for goal in triples(FIVE)[::29]:
                tree = derive(FIVE, told, goal)
                if tree is not None:
                    self.assertEqual(tree[0], "leaf")
                    self.check_tree(FIVE, told, goal, tree)

    def test_nothing_follows_from_the_empty_list(self):
        for goal in triples(THREE):
            self.assertIsNone(derive(THREE, [], goal))
            self.assertEqual(answer(THREE, (), goal), ("web", all_tied(THREE)))

    def test_equal_calls(self):
        told = [PART, (("a",), ("b",), ("c",))]
        goal = (("b", "c"), (), ("a",))
        tree = derive(FOUR, told, goal)
        self.same_kind(derive(goal=goal, told=tuple(told), places=FOUR), tree)
        self.same_kind(answer(goal=goal, told=tuple(told), places=FOUR), ("tree", tree))
        self.assertEqual(told, [PART, (("a",), ("b",), ("c",))])

    def test_checks(self):
        for function in (derive, answer):
            self.checks_world(lambda places: function(places, [BAD] * 11, BAD), 5)
            self.checks_list(lambda told: function(FOUR, told, BAD))
            self.checks_saying(lambda goal: function(FOUR, [AB] * 10, goal))
            self.refused(TooMany(4, 5), function, THREE, [AB] * 5, AB)
            self.refused(TooMany(4, 5), function, THREE, [AB] * 5, (("a",), (), ("c",)))
            self.refused(TooMany(4, 6), function, FIVE, [AB, AB], AB)
            self.refused(TooMany(4, 7), function, THREE, [AB] * 7, (("a",), (), ("c",)))
            self.refused(TooMany(5, 6), function, SEVEN[:6], [], AB)
            self.refused(Unknown("a"), function, (), [], AB)
        self.check_tree(THREE, [AB] * 4 + [PART] * 6, PART[::-1], derive(THREE, [AB] * 4 + [PART] * 6, PART[::-1]))


class AnswerTest(Case):

    def test_answers(self):
        for places in (TWO, THREE, FOUR):
            for told in some_told(places, 4)[::5]:
                for goal in triples(places)[::7]:
                    found = answer(places, told, goal)
                    tree = derive(places, told, goal)
                    wanted = ("web", counterweb(places, told, goal)) if tree is None else ("tree", tree)
                    self.assertEqual(found, wanted)
                    self.assertIs(is_answer(places, told, goal, found), True)
                    self.assertIs(is_answer(paper=found, goal=goal, told=tuple(told), places=places), True)

    def test_the_judge_of_webs(self):
        for places in (TWO, THREE):
            for told in some_told(places, 99)[::4]:
                for goal in triples(places)[::3]:
                    for web in all_webs(places):
                        wanted = web_keeps(web, told) and not web_keeps(web, [goal])
                        self.assertIs(is_answer(places, told, goal, ("web", web)), wanted)
        for web in (Web(()), all_tied(TWO), all_tied(FOUR), all_tied(SEVEN), all_tied(("a", "b", "d"))):
            self.assertIs(is_answer(THREE, [], AB, ("web", web)), False)
        self.assertIs(is_answer(THREE, [], AB, ("web", all_tied(THREE))), True)
        self.assertIs(is_answer(FIVE, [AB] * 10, AB, ("web", no_ties(FIVE))), False)
        self.assertIs(is_answer(FIVE, [PART] * 10, AB, ("web", Web(FIVE, [("a", "c"), ("b", "c")]))), True)

    def test_the_judge_of_trees(self):
        turn = (1, (AB,), (AB[::-1],))
        for told in ([], [AB], [AB[::-1]], [AB] * 10):
            for goal in (AB, AB[::-1], PART):
                for tree in (LEAF, ("leaf", (turn,)), ("leaf", (turn, turn)), ("leaf", ((2,) + turn[1:],))):
                    wanted = proves(THREE, told, goal, tree)
                    self.assertIs(is_answer(THREE, told, goal, ("tree", tree)), wanted)
        for places, told, goal, tree in derived_trees():
            self.assertIs(is_answer(places, told, goal, ("tree", tree)), True)
            self.assertIs(is_answer(places, [], goal, ("tree", tree)), False)

    def test_any_other_word_gives_false(self):
        for word in NO_PLACES + ("Tree", "trees", "leaf", "case", "webs", "counter", "tre", "\n", "tree "):
            self.assertIs(is_answer(THREE, [AB], AB, (word, LEAF)), False)
        self.assertIs(is_answer(THREE, [AB], AB, ("tree", LEAF)), True)

    def test_checks(self):
        for paper in (("tree", LEAF), ("web", all_tied(FOUR)), ("web", Web(())), ("", LEAF)):
            self.checks_world(lambda places: is_answer(places, [BAD] * 11, BAD, paper), 5)
            self.checks_list(lambda told: is_answer(FOUR, told, BAD, paper))
            self.checks_saying(lambda goal: is_answer(FOUR, [AB] * 10, goal, paper))


if __name__ == "__main__":
    unittest.main()
