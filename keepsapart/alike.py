"""What follows from told lists, and which told lists are alike."""

from keepsapart.apart import keeps, keeps_all
from keepsapart.books import Book
from keepsapart.greatwebs import greatest_webs
from keepsapart.places import check_places
from keepsapart.sayings import all_sayings, check_load, check_saying, check_told


def follows(places, told, goal):
    """True if every web over the world that keeps the told list keeps the goal."""
    return counterweb(places, told, goal) is None


def counterweb(places, told, goal):
    """The first greatest web of the told list that does not keep the goal, or None."""
    check_goal(places, told, goal, 7)
    failing = [web for web in greatest_webs(places, told) if not keeps(web, goal)]
    return failing[0] if failing else None


def check_goal(places, told, goal, most):
    """Refuse what is not a world of at most so many places, a told list and a goal over it."""
    check_places(places, most=most)
    check_told(told, places=places)
    check_saying(goal, places=places)


def is_counterweb(web, told, goal):
    """True if the web keeps the told list and does not keep the goal."""
    check_told(told, places=web.places)
    check_saying(goal, places=web.places)
    return keeps_all(web, told) and not keeps(web, goal)


def consequences(places, told):
    """The book of all sayings over a world of at most 4 places that follow from the told list."""
    check_places(places, most=4)
    webs = greatest_webs(places, told)
    return Book(places, [saying for saying in all_sayings(places) if all([keeps(web, saying) for web in webs])])


def alike(places, first, second):
    """True if the same webs over the world keep the two told lists."""
    return unlike(places, first, second) is None


def unlike(places, first, second):
    """The side and the first greatest web of one told list that does not keep the other one, or None."""
    check_lists(places, first, second)
    check_load(places, first, 6)
    check_load(places, second, 6)
    for side, own, other in (("first", first, second), ("second", second, first)):
        failing = [web for web in greatest_webs(places, own) if not keeps_all(web, other)]
        if failing:
            return (side, failing[0])
    return None


def check_lists(places, first, second):
    """Refuse what is not a world and two told lists over it."""
    check_places(places)
    check_told(first, places=places)
    check_told(second, places=places)


def is_unlike(places, first, second, paper):
    """True if the raw paper shows a web over the world that keeps just the told list that its side names."""
    check_lists(places, first, second)
    side, web = paper
    if web.places != places or side not in ("first", "second"):
        return False
    if side == "first":
        return keeps_all(web, first) and not keeps_all(web, second)
    return keeps_all(web, second) and not keeps_all(web, first)


def core_of(places, told):
    """The told sayings that are left when one after another that follows from the others is dropped."""
    check_places(places)
    check_told(told, places=places)
    check_load(places, told, 6)
    kept = []
    for index, saying in enumerate(told):
        if not follows(places, kept + list(told[index + 1:]), saying):
            kept.append(saying)
    return kept
