"""Sayings, told lists and the checks of them."""

from keepsapart.errors import BadSaying, Shared, TooMany
from keepsapart.places import (
    check_lot, check_many, check_place, check_places, check_two, is_lot, lot_minus, lot_union, make_lot,
)


def make_saying(left, between, right):
    """The saying of three lots whose raw places stand in any order."""
    saying = (make_lot(left), make_lot(between), make_lot(right))
    check_sides(saying)
    return saying


def is_saying(places, saying):
    """True if the raw saying is a saying over the world."""
    check_places(places)
    return has_form(saying) and is_over(places, saying)


def is_over(places, saying):
    """True if all places of the saying are in the world."""
    return all([place in places for lot in saying for place in lot])


def has_form(lots):
    """True if the three raw lots are a saying, over whatever world."""
    return all([is_lot(lot) for lot in lots]) and sides_fit(lots)


def sides_fit(lots):
    """True if the outer two of the three lots are not empty and no place is in two of them."""
    left, between, right = lots
    names = left + between + right
    return left != () and right != () and len(set(names)) == len(names)


def check_sides(lots):
    """Refuse three lots that are no saying."""
    if not sides_fit(lots):
        raise BadSaying(lots)


def check_saying(saying, *, places=None):
    """Refuse what is not a saying, or not a saying over the world."""
    for lot in saying:
        check_lot(lot, places=places)
    check_sides(saying)


def check_told(told, *, places=None):
    """Refuse what is not a told list, or not a told list over the world."""
    check_items(told, 10, places)


def check_items(sayings, most, places):
    """Refuse more sayings than the bound allows, and what is not a saying over the world, if there is one."""
    check_many(sayings, most)
    for saying in sayings:
        check_saying(saying, places=places)


def turned(saying):
    """The saying with its left and its right lot exchanged."""
    check_saying(saying)
    left, between, right = saying
    return (right, between, left)


def fewer(saying, place):
    """The saying without the place in its right lot."""
    check_saying(saying)
    left, between, right = saying
    check_place(place, places=right)
    lots = (left, between, lot_minus(right, (place,)))
    check_sides(lots)
    return lots


def more(saying, place):
    """The saying with the place in its between lot too."""
    check_saying(saying)
    check_place(place)
    check_outside(place, saying)
    left, between, right = saying
    return (left, lot_union(between, (place,)), right)


def check_outside(place, saying):
    """Refuse a place that is in one of the lots of the saying."""
    if place in places_of(saying):
        raise Shared(place)


def places_of(saying):
    """The lot of all places of the saying."""
    check_saying(saying)
    left, between, right = saying
    return tuple(sorted(left + between + right))


def outside_of(places, saying):
    """The lot of the places of the world that are outside the saying."""
    check_places(places)
    check_saying(saying, places=places)
    return places_outside(places, saying)


def places_outside(places, saying):
    """The lot of the places of the world that are in none of the three lots, which are not checked."""
    left, between, right = saying
    inside = left + between + right
    return tuple([place for place in places if place not in inside])


def is_full(places, saying):
    """True if the raw saying is a saying over the world that leaves no place outside."""
    return is_saying(places, saying) and outside_of(places, saying) == ()


def all_sayings(places):
    """All sayings over a world of at most 5 places, ascending."""
    check_places(places, most=5)
    triples = [((), (), ())]
    for place in places:
        triples = [longer for lots in triples for longer in placings(lots, place)]
    return sorted([lots for lots in triples if sides_fit(lots)])


def placings(lots, place):
    """The three lots with the place in none of them, and in each one of them."""
    left, between, right = lots
    return [
        lots,
        (left + (place,), between, right),
        (left, between + (place,), right),
        (left, between, right + (place,)),
    ]


def pair_saying(places, a, b):
    """The saying that all other places keep the two places apart."""
    check_places(places)
    check_two(a, b, places)
    return ((a,), tuple([place for place in places if place not in (a, b)]), (b,))


def load_of(places, told):
    """The sum of the numbers of places outside the told sayings."""
    check_places(places)
    check_told(told, places=places)
    return sum([len(outside_of(places, saying)) for saying in told])


def check_load(places, told, most):
    """Refuse a told list with a greater load than the bound allows."""
    load = load_of(places, told)
    if load > most:
        raise TooMany(most, load)
