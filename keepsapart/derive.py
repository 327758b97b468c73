"""Finding a tree of cases for a goal that follows, or a web that shows that it does not."""

from keepsapart.alike import check_goal, counterweb, follows, is_counterweb
from keepsapart.rules import either_use
from keepsapart.sayings import check_load, is_full, outside_of
from keepsapart.steps import closing_steps, needed_steps, uses_by_premise
from keepsapart.trees import is_tree, uses_in
from keepsapart.webof import grown_in


def derive(places, told, goal):
    """A tree of cases for the goal from the told list, or None if the goal does not follow."""
    check_goal(places, told, goal, 5)
    check_load(places, told, 4)
    if not follows(places, told, goal):
        return None
    uses = uses_by_premise(places, (1, 2, 3, 4))
    return tree_after(places, uses, goal, {}, list(told), list(told))


def tree_after(places, uses, goal, held, fresh, growing):
    """A tree for the goal from the held and the fresh sayings.

    The growing sayings are what the told ones have grown to. Each case makes one of them grow by a place, so no
    path has more cases than the load. When all are full, steps reach whatever follows.
    """
    steps = closing_steps(uses, held, fresh)
    known = {saying: True for saying in list(held) + fresh + [step[2][0] for step in steps]}
    if goal in known:
        return ("leaf", needed_steps(steps, [goal]))
    grown = [grown_in(places, known, saying) for saying in growing]
    use = next_case(places, grown)
    first, second = use[2]
    left = tree_after(places, uses, goal, known, [first], grown)
    right = tree_after(places, uses, goal, known, [second], grown)
    needed = list(use[1]) + premises_in(left) + premises_in(right)
    return ("case", needed_steps(steps, needed), use, left, right)


def next_case(places, growing):
    """The use by rule 5 for the first saying that is not full and the least place outside it."""
    unfinished = [saying for saying in growing if not is_full(places, saying)]
    return either_use(unfinished[0], outside_of(places, unfinished[0])[0])


def premises_in(tree):
    """The premises of all uses in the tree."""
    return [saying for use in uses_in(tree) for saying in use[1]]


def answer(places, told, goal):
    """A tree of cases for the goal if it follows, otherwise the first greatest web that does not keep it."""
    tree = derive(places, told, goal)
    return ("web", counterweb(places, told, goal)) if tree is None else ("tree", tree)


def is_answer(places, told, goal, paper):
    """True if the raw paper shows that the goal follows, or that it does not."""
    check_goal(places, told, goal, 5)
    word, witness = paper
    if word == "web":
        return witness.places == places and is_counterweb(witness, told, goal)
    return word == "tree" and is_tree(places, told, goal, witness)
