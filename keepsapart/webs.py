"""Webs: worlds of at most 7 places, some pairs of which are tied."""

from keepsapart.errors import BadLot, Repeated
from keepsapart.places import (
    check_lot, check_new_place, check_place, check_places, check_same_places, check_two,
    lot_common, lot_minus, lot_union, make_pair, pairs_of, selections,
)


class Web:
    """A world of at most 7 places, and its ties."""

    def __init__(self, places, ties=()):
        check_places(places)
        check_ties(ties, places)
        self._places = places
        self._ties = tuple(sorted(ties))
        self._near = {place: tied_places(place, self._ties) for place in places}

    @property
    def places(self):
        """The world, a lot."""
        return self._places

    @property
    def ties(self):
        """The ascending tuple of the ties."""
        return self._ties

    def tied(self, a, b):
        """True if the two places are tied."""
        check_place(a, places=self._places)
        check_place(b, places=self._places)
        return b in self._near[a]

    def neighbours(self, place):
        """The lot of the places that are tied to the place."""
        check_place(place, places=self._places)
        return self._near[place]

    def with_tie(self, a, b):
        """A new web in which the two places are tied too."""
        check_two(a, b, self._places)
        pair = make_pair(a, b)
        return Web(self._places, [tie for tie in self._ties if tie != pair] + [pair])

    def without_tie(self, a, b):
        """A new web in which the two places are not tied."""
        check_two(a, b, self._places)
        pair = make_pair(a, b)
        return Web(self._places, [tie for tie in self._ties if tie != pair])

    def with_place(self, place, *, tied_to=()):
        """A new web with one place more, which is tied to the given lot."""
        check_new_place(place, self._places)
        check_lot(tied_to, places=self._places)
        # An eighth place is refused by the new web, as the last check of this call.
        places = lot_union(self._places, (place,))
        return Web(places, list(self._ties) + [make_pair(place, other) for other in tied_to])

    def without_place(self, place):
        """A new web without the place and its ties."""
        check_place(place, places=self._places)
        return induced(self, lot_minus(self._places, (place,)))

    def __eq__(self, other):
        return isinstance(other, Web) and self._places == other._places and self._ties == other._ties

    def __ne__(self, other):
        return not self == other

    def __contains__(self, place):
        return place in self._places

    def __iter__(self):
        return iter(self._places)

    def __and__(self, other):
        check_same_places(self._places, other._places)
        return Web(self._places, [tie for tie in self._ties if tie in other._ties])

    def __or__(self, other):
        check_same_places(self._places, other._places)
        return Web(self._places, sorted(set(self._ties) | set(other._ties)))


def check_ties(ties, places):
    """Refuse raw lots that are not different pairs of places of the world."""
    seen = {}
    for tie in ties:
        check_lot(tie)
        if len(tie) != 2:
            raise BadLot(tie)
        check_lot(tie, places=places)
        if tie in seen:
            raise Repeated(tie)
        seen[tie] = True


def tied_places(place, ties):
    """The lot of the places that the ties tie to the place."""
    return tuple(sorted([high if low == place else low for low, high in ties if place in (low, high)]))


def no_ties(places):
    """The web over the world with no ties."""
    return Web(places)


def all_tied(places):
    """The web over the world in which every pair is tied."""
    return Web(places, pairs_of(places))


def all_webs(places):
    """All webs over a world of at most 4 places, ascending by their ties."""
    check_places(places, most=4)
    return [Web(places, ties) for ties in selections(pairs_of(places))]


def web_within(small, big):
    """True if each tie of the first web is a tie of the second one."""
    check_same_places(small.places, big.places)
    return all([tie in big.ties for tie in small.ties])


def pairs_differing(first, second):
    """The pairs of places of both webs that are tied in exactly one of them, ascending."""
    pairs = pairs_of(lot_common(first.places, second.places))
    return [pair for pair in pairs if (pair in first.ties) != (pair in second.ties)]


def induced(web, lot):
    """The web over the lot with all ties between its places."""
    check_lot(lot, places=web.places)
    return Web(lot, [(low, high) for low, high in web.ties if low in lot and high in lot])
