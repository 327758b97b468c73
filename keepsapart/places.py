"""Places, lots, pairs and worlds, and the checks of them."""

from keepsapart.errors import BadLot, BadPlace, OtherPlaces, Repeated, TooMany, Unknown

LETTERS = "abcdefghijklmnopqrstuvwxyz"


def is_place(text):
    """True if the raw place is a place."""
    return 1 <= len(text) <= 6 and text.strip(LETTERS) == ""


def make_lot(names):
    """The lot of raw places that stand in any order."""
    for name in names:
        check_place(name)
    seen = {}
    for name in names:
        if name in seen:
            raise Repeated(name)
        seen[name] = True
    return tuple(sorted(names))


def is_lot(names):
    """True if the raw lot is a lot."""
    return all([is_place(name) for name in names]) and ascends(names)


def ascends(names):
    """True if each name is greater than the one before it."""
    return all([low < high for low, high in zip(names, names[1:])])


def check_place(place, *, places=None):
    """Refuse what is not a place, or not a place of the world."""
    if not is_place(place):
        raise BadPlace(place)
    check_known(place, places)


def check_known(place, places):
    """Refuse a place that is not in the world, if there is a world."""
    # The empty tuple is a world too, so only None stands for no world.
    if places is not None and place not in places:
        raise Unknown(place)


def check_new_place(place, places):
    """Refuse what is not a place, or is in the world already."""
    check_place(place)
    if place in places:
        raise Repeated(place)


def check_lot(lot, *, places=None):
    """Refuse what is not a lot, or not a lot of places of the world."""
    for place in lot:
        check_place(place)
    if not ascends(lot):
        raise BadLot(lot)
    for place in lot:
        check_known(place, places)


def check_places(places, *, most=7):
    """Refuse what is not a lot, or has more places than a world may have."""
    check_lot(places)
    check_many(places, most)


def check_many(items, most):
    """Refuse more items than the bound allows."""
    if len(items) > most:
        raise TooMany(most, len(items))


def check_two(a, b, places):
    """Refuse what are not two different places of the world."""
    check_place(a, places=places)
    check_place(b, places=places)
    if a == b:
        raise BadLot((a, b))


def check_same_places(first, second):
    """Refuse two worlds that differ."""
    if first != second:
        raise OtherPlaces(first, second)


def lot_union(first, second):
    """The lot of the places that are in the first or the second lot."""
    check_lot(first)
    check_lot(second)
    return tuple(sorted(set(first) | set(second)))


def lot_common(first, second):
    """The lot of the places that are in both lots."""
    check_lot(first)
    check_lot(second)
    return tuple(sorted(set(first) & set(second)))


def lot_minus(first, second):
    """The lot of the places that are in the first lot and not in the second."""
    check_lot(first)
    check_lot(second)
    return tuple(sorted(set(first) - set(second)))


def put_in(lot, place):
    """The lot with a place more, which was not in it."""
    return tuple(sorted(lot + (place,)))


def take_out(items, item):
    """The tuple, a lot or another one, without the first item that is equal to this one."""
    at = items.index(item)
    return items[:at] + items[at + 1:]


def sublots(lot):
    """All lots that are contained in a lot of at most 7 places, ascending."""
    check_places(lot)
    return selections(lot)


def selections(items):
    """All tuples of some of the ascending items, the empty one included, ascending."""
    found = [()]
    for item in items:
        found = found + [chosen + (item,) for chosen in found]
    return sorted(found)


def pairs_of(lot):
    """All pairs of places of the lot, ascending."""
    check_lot(lot)
    return [(low, high) for low in lot for high in lot if low < high]


def make_pair(a, b):
    """The pair of two different places."""
    return (a, b) if a < b else (b, a)
