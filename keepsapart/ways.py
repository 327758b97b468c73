"""Ways in a web, and the places that they reach."""

from keepsapart.errors import Shared
from keepsapart.places import check_lot, check_place, lot_minus


def reached(web, starts, *, missing=()):
    """The lot of the places reached from the starts missing the lot."""
    check_lot(starts, places=web.places)
    check_lot(missing, places=web.places)
    check_none_missing(starts, missing)
    return tuple(sorted(least_ways(web, starts, missing)))


def lumps_of(web, *, missing=()):
    """The lots of places that reach each other missing the lot, ascending."""
    check_lot(missing, places=web.places)
    lumps = []
    for place in lot_minus(web.places, missing):
        lump = reached(web, (place,), missing=missing)
        # A lump is listed once, when its least place comes.
        if lump[0] == place:
            lumps.append(lump)
    return lumps


def shortest_way(web, start, goal, *, missing=()):
    """The shortest way from the start to the goal that misses the lot, or None."""
    check_ends(web, start, goal, missing)
    check_none_missing((start, goal), missing)
    return least_ways(web, (start,), missing).get(goal)


def distance(web, start, goal, *, missing=()):
    """The number of ties on the shortest way, or None."""
    way = shortest_way(web, start, goal, missing=missing)
    return None if way is None else len(way) - 1


def all_ways(web, start, goal, *, missing=()):
    """All ways from the start to the goal that miss the lot, ascending."""
    check_ends(web, start, goal, missing)
    check_none_missing((start, goal), missing)
    found = []
    growing = [(start,)]
    while growing:
        found = found + [way for way in growing if way[-1] == goal]
        open_ways = [way for way in growing if way[-1] != goal]
        growing = [longer for way in open_ways for longer in longer_ways(web, way, missing)]
    return sorted(found)


def is_way(web, way, start, goal, *, missing=()):
    """True if the raw way is a way from the start to the goal that misses the lot."""
    check_ends(web, start, goal, missing)
    return leads(web, way, (start,), (goal,), missing)


def check_ends(web, start, goal, missing):
    """Refuse ends and a lot that are not of the web."""
    check_place(start, places=web.places)
    check_place(goal, places=web.places)
    check_lot(missing, places=web.places)


def check_none_missing(places, missing):
    """Refuse the first of the places that is in the lot."""
    for place in places:
        if place in missing:
            raise Shared(place)


def least_ways(web, starts, missing):
    """The shortest way to each place reached from the starts, in a dict by the last places."""
    ways = {place: (place,) for place in starts}
    layer = list(starts)
    # A layer stands in the order of its ways, so the first way found to a place is the least.
    while layer:
        following = []
        for place in layer:
            for neighbour in web.neighbours(place):
                if neighbour not in ways and neighbour not in missing:
                    ways[neighbour] = ways[place] + (neighbour,)
                    following.append(neighbour)
        layer = list(following)
    return ways


def longer_ways(web, way, missing):
    """The ways that go on from the way by one place outside the lot."""
    return [way + (place,) for place in web.neighbours(way[-1]) if place not in way and place not in missing]


def leads(web, way, starts, goals, missing):
    """True if the raw way is a way in the web from a start to a goal that misses the lot."""
    if not is_web_way(web, way) or any([place in missing for place in way]):
        return False
    return way[0] in starts and way[-1] in goals


def is_web_way(web, way):
    """True if the raw way is a way in the web, wherever it leads."""
    if way == () or len(set(way)) != len(way) or any([place not in web for place in way]):
        return False
    return all([web.tied(a, b) for a, b in zip(way, way[1:])])
