"""Steps: uses of the rules 1 to 4, one after another, and the lists of them that reach a goal."""

from keepsapart.errors import BadSaying
from keepsapart.places import check_place, check_places, lot_minus
from keepsapart.rules import all_uses, check_rules, cross_use, fewer_use, is_step, more_use, turn_use
from keepsapart.sayings import check_items, check_outside, check_saying, is_full, pair_saying, turned


def are_steps(places, known, goals, steps):
    """True if the raw uses are steps that are right for the known sayings and reach each goal."""
    check_places(places, most=5)
    check_items(known, 40, places)
    check_items(goals, 40, places)
    held = held_after(places, known, steps)
    return held is not None and all([goal in held for goal in goals])


def held_after(places, known, steps):
    """A dict of the sayings known after the raw uses, or None if these are not right steps."""
    held = {saying: True for saying in known}
    for use in steps:
        if not is_step(places, use) or not all([premise in held for premise in use[1]]):
            return None
        held[use[2][0]] = True
    return held


def is_lean(known, steps):
    """True if no raw use concludes what is known or what an earlier one concludes."""
    check_items(known, 40, None)
    held = {saying: True for saying in known}
    for use in steps:
        if any([saying in held for saying in use[2]]):
            return False
        for saying in use[2]:
            held[saying] = True
    return True


def grow_steps(places, saying, place, *, to_left=False):
    """Steps that put the place into the right or the left lot, if it is known to be kept apart from the other."""
    check_places(places, most=5)
    check_saying(saying, places=places)
    check_place(place, places=places)
    check_outside(place, saying)
    if not to_left:
        return tuple(join_steps(saying, place))
    _, between, right = saying
    turns = [turn_use(saying), turn_use(((place,), between, right))]
    joined = join_steps(turned(saying), place)
    return tuple(turns + joined + [turn_use(joined[-1][2][0])])


def join_steps(saying, place):
    """Steps that put the place into the right lot, from the saying and the one with the place alone there."""
    left, between, right = saying
    widened, _ = widen((left, between, (place,)), right)
    first = more_use(saying, place)
    return widened + [first, cross_use(first[2][0], place)]


def scatter_steps(places, saying):
    """Steps from a full saying to the pair saying of each place on its left and each one on its right."""
    check_full(places, saying)
    left, _, right = saying
    steps = []
    for b in right:
        near, side = single_out(saying, b)
        steps = steps + near + [turn_use(side)]
        for a in left:
            far, pair = single_out(turned(side), a)
            steps = steps + far + [turn_use(pair)]
    return trimmed([saying], pairs_between(places, saying), steps)


def gather_steps(places, saying):
    """Steps to a full saying from the pair saying of each place on its left and each one on its right."""
    check_full(places, saying)
    left, _, right = saying
    sides = [join_all(pair_saying(places, a, right[0]), right[1:]) for a in left]
    steps = [use for near, side in sides for use in near + [turn_use(side)]]
    far, whole = join_all(turned(sides[0][1]), left[1:])
    return trimmed(pairs_between(places, saying), [saying], steps + far + [turn_use(whole)])


def check_full(places, saying):
    """Refuse what is not a full saying over a world of at most 5 places."""
    check_places(places, most=5)
    check_saying(saying, places=places)
    if not is_full(places, saying):
        raise BadSaying(saying)


def pairs_between(places, saying):
    """The pair sayings of each place on the left and each one on the right of the saying."""
    left, _, right = saying
    return [pair_saying(places, a, b) for a in left for b in right]


def single_out(saying, place):
    """Steps that move all other places of the right lot into the between lot, and the saying at their end."""
    others = lot_minus(saying[2], (place,))
    steps = []
    for other in others:
        steps.append(fewer_use(saying, other))
        saying = steps[-1][2][0]
    widened, saying = widen(saying, others)
    return (steps + widened, saying)


def widen(saying, places):
    """Steps that put the places into the between lot, and the saying at their end."""
    steps = []
    for place in places:
        steps.append(more_use(saying, place))
        saying = steps[-1][2][0]
    return (steps, saying)


def join_all(saying, places):
    """Steps that move the places from the between to the right lot, and the saying at their end."""
    steps = []
    for place in places:
        steps.append(cross_use(saying, place))
        saying = steps[-1][2][0]
    return (steps, saying)


def steps_to(places, known, goal, *, rules=(1, 2, 3, 4)):
    """Steps by these rules from the known sayings to the goal, or None if there are none."""
    check_places(places, most=4)
    check_items(known, 40, places)
    check_saying(goal, places=places)
    check_rules(rules, 4)
    steps = closing_steps(uses_by_premise(places, rules), [], list(known))
    if goal not in known and all([use[2] != (goal,) for use in steps]):
        return None
    return needed_steps(steps, [goal])


def uses_by_premise(places, rules):
    """For each saying over the world that is a premise, the uses by these rules that need it."""
    uses = {}
    for use in all_uses(places, rules=rules):
        for premise in use[1]:
            uses.setdefault(premise, []).append(use)
    return uses


def closing_steps(uses, held, fresh):
    """Lean steps to all sayings that steps reach from those that are held and those that are fresh.

    What steps reach from the held sayings alone is held too, so only what is fresh needs a look.
    """
    known = {saying: True for saying in list(held) + fresh}
    steps = []
    waiting = list(fresh)
    while waiting:
        candidates = [needing for saying in waiting for needing in uses.get(saying, ())]
        waiting = []
        for use in candidates:
            conclusion = use[2][0]
            if conclusion not in known and all([premise in known for premise in use[1]]):
                known[conclusion] = True
                steps.append(use)
                waiting.append(conclusion)
    return steps


def trimmed(known, goals, steps):
    """Those of the right steps that the goals need, without those that conclude what is known before."""
    held = {saying: True for saying in known}
    lean = []
    for use in steps:
        if use[2][0] not in held:
            held[use[2][0]] = True
            lean.append(use)
    return needed_steps(lean, goals)


def needed_steps(steps, goals):
    """Those of the lean steps that the goals need, as a tuple."""
    needed = {goal: True for goal in goals}
    chosen = []
    for use in reversed(steps):
        if use[2][0] in needed:
            chosen.append(use)
            for premise in use[1]:
                needed[premise] = True
    return tuple(reversed(chosen))
