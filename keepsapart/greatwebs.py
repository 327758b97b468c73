"""Choices, and the greatest webs that keep a told list."""

from keepsapart.apart import first_failing, keeps_all, verdict
from keepsapart.errors import BadSaying, NotKept
from keepsapart.places import check_places, pairs_of
from keepsapart.sayings import check_load, check_saying, check_told, is_full, outside_of
from keepsapart.webs import Web, all_webs, web_within


def extensions_of(places, saying):
    """All full sayings over the world that put each place outside the saying on one of its sides, ascending."""
    check_places(places)
    check_saying(saying, places=places)
    left, between, right = saying
    sides = [(left, right)]
    for place in outside_of(places, saying):
        sides = [grown for near, far in sides for grown in ((near + (place,), far), (near, far + (place,)))]
    return sorted([(tuple(sorted(near)), between, tuple(sorted(far))) for near, far in sides])


def choices_of(places, told):
    """All tuples of one extension of each told saying, ascending."""
    check_places(places)
    check_told(told, places=places)
    check_load(places, told, 6)
    choices = [()]
    for saying in told:
        extensions = extensions_of(places, saying)
        choices = [choice + (full,) for choice in choices for full in extensions]
    return choices


def web_of_choice(places, choice):
    """The web that ties each pair that no saying of the choice parts."""
    check_places(places)
    check_told(choice, places=places)
    for saying in choice:
        if not is_full(places, saying):
            raise BadSaying(saying)
    return Web(places, [pair for pair in pairs_of(places) if not is_parted(choice, pair)])


def is_parted(choice, pair):
    """True if some saying of the choice has one place of the pair on its left and the other one on its right."""
    a, b = pair
    return any([(a in left and b in right) or (b in left and a in right) for left, _, right in choice])


def choice_of(web, told):
    """The splits of the told sayings by what is reached from their left lots."""
    check_told(told, places=web.places)
    check_kept(web, told)
    return tuple([verdict(web, saying)[1] for saying in told])


def check_kept(web, told):
    """Refuse the first told saying that the web does not keep."""
    index = first_failing(web, told)
    if index is not None:
        raise NotKept(told[index])


def greatest_webs(places, told):
    """The greatest webs of the told list, ascending by their ties."""
    found = {}
    for choice in choices_of(places, told):
        made = web_of_choice(places, choice)
        found[made.ties] = made
    webs = [found[ties] for ties in sorted(found)]
    return [web for web in webs if not any([web_within(web, other) for other in webs if other != web])]


def is_greatest(web, told):
    """True if the web is a greatest web of the told list over its own world."""
    check_told(told, places=web.places)
    return keeps_all(web, told) and great_above(web, told) == web


def great_above(web, told):
    """The greatest web found by tying one pair after another where the told list stays kept."""
    check_told(told, places=web.places)
    check_kept(web, told)
    great = web
    for a, b in pairs_of(web.places):
        tried = great.with_tie(a, b)
        if keeps_all(tried, told):
            great = tried
    return great


def keeping_webs(places, told):
    """All webs over a world of at most 4 places that keep the told list, ascending by their ties."""
    check_places(places, most=4)
    check_told(told, places=places)
    return [web for web in all_webs(places) if keeps_all(web, told)]
