"""Partings, cut places and blocks: how many ways lead beside each other, and where a web is thin."""

from keepsapart.apart import keeps
from keepsapart.places import check_place, check_two, lot_minus, lot_union, make_pair, pairs_of, put_in
from keepsapart.sayings import is_saying
from keepsapart.walls import check_sides_in, walls_between
from keepsapart.ways import is_web_way, longer_ways


def parting_of(web, left, right):
    """The first wall with the fewest places and as many ways beside each other, or None if there is no wall."""
    walls = walls_between(web, left, right)
    if walls == []:
        return None
    fewest = min([len(wall) for wall in walls])
    wall = [wall for wall in walls if len(wall) == fewest][0]
    return (wall, ways_beside(web, left, right, lot_minus(web.places, lot_union(left, right)), fewest))


def ways_beside(web, left, right, free, many):
    """So many ways beside each other whose inner places are free, or None if there are not so many."""
    if many == 0:
        return []
    for way in inner_ways(web, left, right, free):
        rest = [place for place in free if place not in way]
        others = ways_beside(web, left, right, rest, many - 1)
        if others is not None:
            return [way] + others
    return None


def inner_ways(web, left, right, free):
    """The ways from the left to the right whose inner places are free, the shorter ones first."""
    found = []
    growing = [(place,) for place in left]
    while growing:
        longer = [more for way in growing for more in longer_ways(web, way, ())]
        found = found + [way for way in longer if way[-1] in right]
        growing = [way for way in longer if way[-1] in free]
    return found


def is_parting(web, left, right, wall, ways):
    """True if the raw wall and the raw ways are a parting."""
    check_sides_in(web, left, right)
    saying = (left, wall, right)
    if len(ways) != len(wall) or not is_saying(web.places, saying) or not keeps(web, saying):
        return False
    return all([goes_across(web, left, right, way) for way in ways]) and are_beside(lot_union(left, right), ways)


def goes_across(web, left, right, way):
    """True if the raw way is one of the web whose first place alone is on the left, and its last one on the right."""
    if not is_web_way(web, way):
        return False
    ends = [[place for place in way if place in lot] for lot in (left, right)]
    return ends == [[way[0]], [way[-1]]]


def are_beside(ends, ways):
    """True if no place outside the ends is in two of the ways."""
    inner = [place for way in ways for place in way if place not in ends]
    return len(set(inner)) == len(inner)


def cut_places(web):
    """The lot of the places that alone keep apart what is not apart without them."""
    return tuple([place for place in web if cut_pair(web, place) is not None])


def cut_pair(web, place):
    """The least pair that the place alone keeps apart, but not the empty lot, or None."""
    check_place(place, places=web.places)
    for a, b in pairs_of(lot_minus(web.places, (place,))):
        if not keeps(web, ((a,), (), (b,))) and keeps(web, ((a,), (place,), (b,))):
            return (a, b)
    return None


def close(web, a, b):
    """True if neither the empty lot nor one other place keeps the two places apart."""
    check_two(a, b, web.places)
    others = lot_minus(web.places, make_pair(a, b))
    return not any([keeps(web, ((a,), lot, (b,))) for lot in [()] + [(place,) for place in others]])


def blocks_of(web):
    """The greatest lots in which every two places are close, ascending."""
    near = [(a, b) for a, b in pairs_of(web.places) if close(web, a, b)]
    lots = [()]
    # Each lot of places that are close to each other grows by the greater places that are close to all of them.
    for place in web:
        lots = lots + [lot + (place,) for lot in lots if all([(other, place) in near for other in lot])]
    return sorted([lot for lot in lots[1:] if not grows_within(lots, lot, lot_minus(web.places, lot))])


def grows_within(lots, lot, others):
    """True if the lot with one of the other places is one of the lots."""
    return any([put_in(lot, place) in lots for place in others])
