"""Finding a hidden web by asking which sayings it keeps."""

from keepsapart.apart import keeps
from keepsapart.places import check_places, check_same_places, pairs_of
from keepsapart.sayings import check_items, pair_saying, turned
from keepsapart.webs import Web, all_tied, all_webs, pairs_differing


class Asker:
    """Hides a web, and answers and logs questions about it."""

    def __init__(self, web):
        self._web = web
        self._log = []

    def __call__(self, saying):
        answer = keeps(self._web, saying)
        self._log.append((saying, answer))
        return answer

    @property
    def places(self):
        """The world of the hidden web."""
        return self._web.places

    @property
    def asked(self):
        """The number of the logged questions."""
        return len(self._log)

    @property
    def log(self):
        """The logged questions, a tuple of sayings with their answers."""
        return tuple(self._log)


def find_web(asker):
    """The hidden web, found by asking the pair saying of each pair."""
    places = asker.places
    return Web(places, [(a, b) for a, b in pairs_of(places) if not asker(pair_saying(places, a, b))])


def undecided(places, asked):
    """Two webs that no asked saying tells apart, or None if each pair is decided by one of the asked sayings."""
    check_places(places)
    check_items(asked, 30, places)
    for a, b in pairs_of(places):
        saying = pair_saying(places, a, b)
        if saying not in asked and turned(saying) not in asked:
            return (all_tied(places), all_tied(places).without_tie(a, b))
    return None


def agreeing_webs(places, log):
    """All webs over a world of at most 4 places that agree with each answer of the log, ascending by their ties."""
    check_places(places, most=4)
    check_items([saying for saying, _ in log], 30, places)
    return [web for web in all_webs(places) if all([keeps(web, saying) == answer for saying, answer in log])]


def tell_apart(first, second):
    """The pair saying of the least pair that is tied in exactly one of the webs, or None if they are equal."""
    check_same_places(first.places, second.places)
    differing = pairs_differing(first, second)
    if not differing:
        return None
    a, b = differing[0]
    return pair_saying(first.places, a, b)
