"""The five rules, the uses of them, and the written form of a use."""

from keepsapart.errors import BadRule, BadText, BadUse
from keepsapart.places import check_places, put_in, selections, take_out
from keepsapart.sayings import all_sayings, check_saying, is_saying, places_outside
from keepsapart.saytext import check_one_line, saying_in, saying_text

DIGITS = ("1", "2", "3", "4", "5")


def is_use(places, use):
    """True if the raw use is a use over the world."""
    check_places(places, most=5)
    rule, premises, _ = use
    if rule not in (1, 2, 3, 4, 5) or premises == () or not is_saying(places, premises[0]):
        return False
    return use in uses_on(places, premises[0], rule)


def is_step(places, use):
    """True if the raw use is a use over the world by one of the rules 1 to 4."""
    return use[0] != 5 and is_use(places, use)


def check_use(use, *, places=None):
    """Refuse what is not a shaped use, or not a shaped use over the world."""
    rule, premises, conclusions = use
    if rule not in (1, 2, 3, 4, 5):
        raise BadRule(rule)
    if len(premises) not in (1, 2) or len(conclusions) not in (1, 2):
        raise BadUse(use)
    for saying in premises + conclusions:
        check_saying(saying, places=places)


def check_rules(rules, most):
    """Refuse the first number that is not from 1 to the greatest rule, or does not ascend."""
    before = 0
    for rule in rules:
        if rule <= before or rule > most:
            raise BadRule(rule)
        before = rule


def all_uses(places, *, rules=(1, 2, 3, 4, 5)):
    """All uses over the world by these rules, ascending."""
    check_places(places, most=5)
    check_rules(rules, 5)
    sayings = all_sayings(places)
    # The rules, the sayings and the uses on each of them ascend, so nothing has to be sorted.
    return [use for rule in rules for saying in sayings for use in uses_on(places, saying, rule)]


def uses_from(places, saying, *, rules=(1, 2, 3, 4, 5)):
    """The uses by these rules that have the saying among their premises, ascending."""
    check_near(places, saying, rules)
    found = [use for rule in rules for use in uses_on(places, saying, rule)]
    if 4 in rules:
        found = found + crossed_by(saying)
    return sorted(found)


def uses_to(places, saying, *, rules=(1, 2, 3, 4, 5)):
    """The uses by these rules that have the saying among their conclusions, ascending."""
    check_near(places, saying, rules)
    return sorted([use for rule in rules for use in uses_ending(places, saying, rule)])


def check_near(places, saying, rules):
    """Refuse what is not a world of at most 5 places, a saying over it and a tuple of rules."""
    check_places(places, most=5)
    check_saying(saying, places=places)
    check_rules(rules, 5)


def uses_on(places, saying, rule):
    """The uses over the world by this rule whose first premise is the saying, ascending."""
    left, between, right = saying
    if rule == 1:
        return [turn_use(saying)]
    if rule == 2:
        # The greater the place that is taken out, the less is what is left.
        return [fewer_use(saying, place) for place in reversed(right) if len(right) > 1]
    if rule == 4:
        return [cross_use(saying, place) for place in reversed(between)]
    outside = places_outside(places, saying)
    if rule == 3:
        return [more_use(saying, place) for place in outside]
    return [either_use(saying, place) for place in outside]


def crossed_by(saying):
    """The uses by rule 4 whose second premise is the saying."""
    left, between, right = saying
    if len(right) > 1:
        return []
    place = right[0]
    found = []
    for lot in selections(between)[1:]:
        rest = tuple([other for other in between if other not in lot])
        found.append(cross_use((left, put_in(rest, place), lot), place))
    return found


def uses_ending(places, saying, rule):
    """The uses over the world by this rule that have the saying among their conclusions."""
    left, between, right = saying
    if rule == 1:
        return [turn_use((right, between, left))]
    if rule == 3:
        return [more_use((left, take_out(between, place), right), place) for place in between]
    if rule == 4:
        lots = [(put_in(between, place), take_out(right, place), place) for place in right if len(right) > 1]
        return [cross_use((left, middle, far), place) for middle, far, place in lots]
    outside = places_outside(places, saying)
    if rule == 2:
        return [fewer_use((left, between, put_in(right, place)), place) for place in outside]
    found = []
    for lot in selections(outside)[1:]:
        if len(right) == 1:
            found.append(either_use((left, between, lot), right[0]))
        if len(left) == 1:
            found.append(either_use((lot, between, right), left[0]))
    return found


def turn_use(saying):
    """The use by rule 1 that turns the saying."""
    left, between, right = saying
    return (1, (saying,), ((right, between, left),))


def fewer_use(saying, place):
    """The use by rule 2 that takes the place out of the right lot."""
    left, between, right = saying
    return (2, (saying,), ((left, between, take_out(right, place)),))


def more_use(saying, place):
    """The use by rule 3 that puts the place into the between lot."""
    left, between, right = saying
    return (3, (saying,), ((left, put_in(between, place), right),))


def cross_use(saying, place):
    """The use by rule 4 that moves the place from the between lot of its first premise to the right lot."""
    left, between, right = saying
    rest = take_out(between, place)
    other = (left, tuple(sorted(rest + right)), (place,))
    return (4, (saying, other), ((left, rest, put_in(right, place)),))


def either_use(saying, place):
    """The use by rule 5 that parts the place from one of the two sides."""
    left, between, right = saying
    return (5, (saying,), ((left, between, (place,)), ((place,), between, right)))


def use_text(use):
    """The written use."""
    check_use(use)
    rule, premises, conclusions = use
    return f"{rule} : {sayings_text(premises)} : {sayings_text(conclusions)}"


def sayings_text(sayings):
    """The written premises or conclusions of a use."""
    return " ; ".join([saying_text(saying) for saying in sayings])


def read_use(text):
    """The shaped use that is written so."""
    lines = text.split("\n")
    use = use_in(lines[0], None)
    if use is None:
        raise BadText(1)
    check_one_line(lines)
    return use


def use_in(text, places):
    """The shaped use, over the world if there is one, that is written so in one line, or None if there is none."""
    parts = text.split(" : ")
    if len(parts) != 3 or parts[0] not in DIGITS:
        return None
    premises = sayings_in(parts[1], places)
    conclusions = sayings_in(parts[2], places)
    if premises is None or conclusions is None:
        return None
    return (int(parts[0]), premises, conclusions)


def sayings_in(text, places):
    """The one or two sayings, over the world if there is one, that are written so, or None if they are not."""
    sayings = tuple([saying_in(part, places) for part in text.split(" ; ")])
    if len(sayings) > 2 or any([saying is None for saying in sayings]):
        return None
    return sayings
