"""Papers: claims with their witnesses."""

from keepsapart.alike import is_counterweb, is_unlike, unlike
from keepsapart.apart import is_crossing, is_split, verdict
from keepsapart.brokenrule import is_broken_use
from keepsapart.derive import answer
from keepsapart.errors import BadKind, BadLot
from keepsapart.places import check_many, check_place, check_places, check_same_places
from keepsapart.rules import check_use
from keepsapart.sayings import check_saying, check_told
from keepsapart.trees import is_tree, uses_in
from keepsapart.walls import is_wall_paper, wall_ways
from keepsapart.webof import both_ways, is_both_ways

# The parts of each kind of paper, in their order.
PARTS = {
    "apart": ("web", "saying", "split"),
    "way": ("web", "saying", "way"),
    "web": ("book", "web"),
    "broken": ("book", "use"),
    "tree": ("places", "told", "goal", "tree"),
    "counter": ("places", "told", "goal", "web"),
    "unlike": ("places", "first", "second", "side", "web"),
    "wall": ("web", "saying", "ways"),
}


class Paper:
    """A claim of one of the eight kinds, and a witness that may be right or not."""

    def __init__(self, kind, *parts):
        if kind not in PARTS:
            raise BadKind(kind)
        check_parts(kind, parts)
        self._kind = kind
        self._parts = tuple([plain_part(name, part) for name, part in zip(PARTS[kind], parts)])

    @property
    def kind(self):
        """The word of the kind."""
        return self._kind

    @property
    def parts(self):
        """The tuple of the parts, in which told lists and ways are tuples."""
        return self._parts

    def __eq__(self, other):
        return isinstance(other, Paper) and self._kind == other._kind and self._parts == other._parts

    def __ne__(self, other):
        return not self == other


def check_parts(kind, parts):
    """Refuse the first part that is not of its kind over the world of the paper."""
    first = parts[0]
    if PARTS[kind][0] == "places":
        check_places(first, most=world_bound(kind))
        places = first
    else:
        places = first.places
    for name, part in zip(PARTS[kind], parts):
        check_part(name, part, places)


def world_bound(kind):
    """How many places the world of a paper of this kind may have."""
    return 5 if kind in ("web", "broken", "tree") else 7


def check_part(name, part, places):
    """Refuse a part that is not what its name tells over the world of the paper."""
    if name == "web":
        check_same_places(places, part.places)
    elif name in ("saying", "split", "goal"):
        check_saying(part, places=places)
    elif name in ("told", "first", "second"):
        check_told(part, places=places)
    elif name == "use":
        check_use(part, places=places)
    elif name == "tree":
        for use in uses_in(part):
            check_use(use, places=places)
    elif name == "side":
        check_side(part)
    elif name == "way":
        check_way(part, places)
    elif name == "ways":
        check_many(part, 7)
        for way in part:
            check_way(way, places)


def check_side(side):
    """Refuse a word that names neither of two told lists."""
    if side not in ("first", "second"):
        raise BadKind(side)


def check_way(way, places):
    """Refuse a way that is empty or has what is not a place of the world."""
    if way == ():
        raise BadLot(way)
    for place in way:
        check_place(place, places=places)


def plain_part(name, part):
    """The part, as a tuple if a list of sayings or ways may have been passed."""
    return tuple(part) if name in ("told", "first", "second", "ways") else part


def is_shown(paper):
    """True if the witness of the paper is right."""
    kind = paper.kind
    parts = paper.parts
    if kind == "apart":
        return is_split(*parts)
    if kind == "way":
        return is_crossing(*parts)
    if kind == "broken":
        return is_broken_use(*parts)
    if kind == "tree":
        return is_tree(*parts)
    if kind == "wall":
        return is_wall_paper(*parts)
    if kind == "web":
        book, web = parts
        return is_both_ways(book, ("web", web))
    if kind == "counter":
        _, told, goal, web = parts
        return is_counterweb(web, told, goal)
    places, first, second, side, web = parts
    return is_unlike(places, first, second, (side, web))


def paper_of_saying(web, saying):
    """The paper "apart" or "way" of what the web tells of the saying."""
    word, witness = verdict(web, saying)
    return Paper(word, web, saying, witness)


def paper_of_book(book):
    """The paper "web" or "broken" of the book."""
    word, witness = both_ways(book)
    return Paper(word, book, witness)


def paper_of_goal(places, told, goal):
    """The paper "tree" or "counter" of the goal."""
    word, witness = answer(places, told, goal)
    return Paper("tree" if word == "tree" else "counter", places, told, goal, witness)


def paper_of_lists(places, first, second):
    """The paper "unlike" of the told lists, or None if they are alike."""
    found = unlike(places, first, second)
    if found is None:
        return None
    side, web = found
    return Paper("unlike", places, first, second, side, web)


def paper_of_wall(web, saying):
    """The paper "wall" of the saying, or None if its between lot is not a least wall."""
    ways = wall_ways(web, saying)
    return None if ways is None else Paper("wall", web, saying, ways)
