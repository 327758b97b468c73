"""Walls: lots that keep two lots apart, and the ways that show that a wall is least."""

from keepsapart.apart import keeps, verdict
from keepsapart.greatwebs import check_kept
from keepsapart.places import check_lot, lot_minus, lot_union, selections, take_out
from keepsapart.sayings import check_sides
from keepsapart.ways import leads, reached


def is_least_wall(web, saying):
    """True if the web keeps the saying, and its between lot is a least wall."""
    return keeps(web, saying) and wall_ways(web, saying) is not None


def least_walls(web, left, right):
    """All walls between the lots that contain no other wall, ascending."""
    walls = walls_between(web, left, right)
    # What contains a wall is a wall too, so it is enough to take out one place.
    return [wall for wall in walls if not any([take_out(wall, place) in walls for place in wall])]


def walls_between(web, left, right):
    """All walls between the lots, ascending."""
    check_sides_in(web, left, right)
    others = lot_minus(web.places, lot_union(left, right))
    return [lot for lot in selections(others) if keeps(web, (left, lot, right))]


def check_sides_in(web, left, right):
    """Refuse what are not two lots of the web that can be the sides of a saying."""
    check_lot(left, places=web.places)
    check_lot(right, places=web.places)
    check_sides((left, (), right))


def wall_ways(web, saying):
    """For each place between, the shortest way that meets no other place between; None if the wall is not least."""
    check_kept(web, [saying])
    left, between, right = saying
    papers = [verdict(web, (left, take_out(between, place), right)) for place in between]
    if any([word == "apart" for word, _ in papers]):
        return None
    return [way for _, way in papers]


def is_wall_paper(web, saying, ways):
    """True if the raw ways show that the web keeps the saying and that its between lot is a least wall."""
    if not keeps(web, saying):
        return False
    left, between, right = saying
    if len(ways) != len(between):
        return False
    return all([leads(web, way, left, right, take_out(between, place)) for way, place in zip(ways, between)])


def shrunk_wall(web, saying):
    """A least wall within the between lot: what is met first from the left, and of this what is met from the right."""
    check_kept(web, [saying])
    left, between, right = saying
    return met_first(web, right, met_first(web, left, between))


def met_first(web, starts, lot):
    """The places of the lot that are tied to a place reached from the starts missing the lot."""
    near = reached(web, starts, missing=lot)
    return tuple([place for place in lot if any([web.tied(place, other) for other in near])])
