"""Which sayings a web keeps, and the splits and crossings that show it."""

from keepsapart.places import lot_minus, lot_union
from keepsapart.sayings import check_saying, check_told, is_full
from keepsapart.ways import leads, least_ways, reached


def keeps(web, saying):
    """True if the web keeps the saying."""
    check_saying(saying, places=web.places)
    left, between, right = saying
    near = reached(web, left, missing=between)
    return not any([place in near for place in right])


def apart_from(web, starts, *, missing=()):
    """The lot of the places neither in the lot nor reached from the starts missing it."""
    near = reached(web, starts, missing=missing)
    return lot_minus(web.places, lot_union(near, missing))


def verdict(web, saying):
    """The split of the saying that the web keeps, or the shortest crossing of the saying."""
    check_saying(saying, places=web.places)
    left, between, right = saying
    ways = least_ways(web, left, between)
    crossings = [(len(ways[place]), ways[place]) for place in right if place in ways]
    if crossings:
        return ("way", min(crossings)[1])
    near = tuple(sorted(ways))
    return ("apart", (near, between, lot_minus(web.places, lot_union(near, between))))


def is_split(web, saying, split):
    """True if the raw saying is a split of the saying in the web."""
    check_saying(saying, places=web.places)
    if not is_full(web.places, split):
        return False
    left, between, right = saying
    near, middle, far = split
    return (
        middle == between and lot_minus(left, near) == () and lot_minus(right, far) == ()
        and not any([web.tied(a, b) for a in near for b in far])
    )


def is_crossing(web, saying, way):
    """True if the raw way is a crossing of the saying in the web."""
    check_saying(saying, places=web.places)
    left, between, right = saying
    return leads(web, way, left, right, between)


def keeps_all(web, told):
    """True if the web keeps each saying of the told list."""
    return first_failing(web, told) is None


def first_failing(web, told):
    """The index of the first told saying that the web does not keep, or None."""
    check_told(told, places=web.places)
    for index, saying in enumerate(told):
        if not keeps(web, saying):
            return index
    return None
