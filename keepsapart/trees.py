"""Trees of cases, and the written form of a tree."""

from keepsapart.alike import check_goal
from keepsapart.apart import keeps
from keepsapart.errors import BadText
from keepsapart.rules import is_use, use_in, use_text
from keepsapart.sayings import check_told
from keepsapart.steps import held_after

# How many conclusions the use behind a word has.
CONCLUSIONS = {"step": 1, "case": 2}


def is_tree(places, told, goal, tree):
    """True if the shaped tree is a tree of cases for the goal from the told list."""
    check_goal(places, told, goal, 5)
    return shows(places, told, goal, tree)


def shows(places, known, goal, tree):
    """True if the shaped tree is a tree of cases for the goal from the known sayings."""
    held = held_after(places, known, tree[1])
    if held is None:
        return False
    if tree[0] == "leaf":
        return goal in held
    _, _, use, left, right = tree
    if use[0] != 5 or not is_use(places, use) or use[1][0] not in held:
        return False
    first, second = use[2]
    later = list(held)
    return shows(places, later + [first], goal, left) and shows(places, later + [second], goal, right)


def tree_size(tree):
    """The numbers of leaves, of cases and of steps, and the greatest number of cases on a path."""
    if tree[0] == "leaf":
        return (1, 0, len(tree[1]), 0)
    _, steps, _, left, right = tree
    left_leaves, left_cases, left_steps, left_depth = tree_size(left)
    right_leaves, right_cases, right_steps, right_depth = tree_size(right)
    return (
        left_leaves + right_leaves,
        left_cases + right_cases + 1,
        left_steps + right_steps + len(steps),
        max(left_depth, right_depth) + 1,
    )


def uses_in(tree):
    """All uses in the tree, in the order in which they are written."""
    if tree[0] == "leaf":
        return list(tree[1])
    _, steps, use, left, right = tree
    return list(steps) + [use] + uses_in(left) + uses_in(right)


def tree_branches(told, tree):
    """For each leaf, from left to right, the sayings known at its end, ascending."""
    check_told(told)
    return branches_after(list(told), tree)


def branches_after(known, tree):
    """The branches of the tree below the known sayings."""
    held = known + [use[2][0] for use in tree[1]]
    if tree[0] == "leaf":
        return [tuple(sorted(set(held)))]
    _, _, use, left, right = tree
    first, second = use[2]
    return branches_after(held + [first], left) + branches_after(held + [second], right)


def turns_of(web, tree):
    """The turns of the web in the tree: left where it keeps the first conclusion of a case, otherwise right."""
    turns = ()
    while tree[0] == "case":
        _, _, use, left, right = tree
        if keeps(web, use[2][0]):
            turns = turns + ("left",)
            tree = left
        else:
            turns = turns + ("right",)
            tree = right
    return turns


def tree_text(tree):
    """The written tree."""
    return "\n".join(tree_lines(tree))


def tree_lines(tree):
    """The lines of the written tree."""
    lines = ["step " + use_text(use) for use in tree[1]]
    if tree[0] == "leaf":
        return lines + ["leaf"]
    _, _, use, left, right = tree
    return lines + ["case " + use_text(use)] + tree_lines(left) + tree_lines(right)


def read_tree(text):
    """The shaped tree that is written so."""
    return tree_in(text.split("\n"), None)


def tree_in(lines, places):
    """The shaped tree that is written in the lines, all of them, over the world if there is one."""
    nodes = []
    steps = []
    missing = 1
    for number, line in enumerate(lines, start=1):
        found = node_in(line, places)
        if missing == 0 or found is None:
            raise BadText(number)
        word, use = found
        if word == "step":
            steps.append(use)
        else:
            nodes.append((tuple(steps), use))
            steps = []
            # A leaf is a tree that was missing; a case is one, too, and brings two more.
            missing = missing - 1 if word == "leaf" else missing + 1
    if missing > 0:
        raise BadText(len(lines) + 1)
    return tree_of(nodes)


def node_in(line, places):
    """The word of a line of a written tree and the use behind it, or None if no tree over the world has this line."""
    if line == "leaf":
        return ("leaf", None)
    word, _, rest = line.partition(" ")
    use = use_in(rest, places)
    if use is None or len(use[2]) != CONCLUSIONS.get(word, 0):
        return None
    return (word, use)


def tree_of(nodes):
    """The tree of the leaves and cases in their order, each one a pair of steps and a use, None for a leaf."""
    trees = []
    # From the last node to the first, so both trees of a case stand at the end when it comes.
    for steps, use in reversed(nodes):
        if use is None:
            trees.append(("leaf", steps))
        else:
            left = trees.pop()
            right = trees.pop()
            trees.append(("case", steps, use, left, right))
    return trees[0]
