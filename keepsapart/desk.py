"""The desk: a world and a told list that are changed by deeds, which can be taken back and done again."""

from keepsapart.alike import consequences, core_of, counterweb, follows
from keepsapart.derive import answer
from keepsapart.errors import InUse, NoChange, NotTold
from keepsapart.greatwebs import greatest_webs
from keepsapart.places import check_many, check_new_place, check_place, check_places, put_in, take_out
from keepsapart.sayings import check_saying, check_told, load_of, places_of


class Desk:
    """A world of at most 5 places, a told list over it, and the earlier and later states of both."""

    def __init__(self, places=()):
        check_places(places, most=5)
        self._places = places
        self._told = ()
        self._earlier = []
        self._later = []

    @property
    def places(self):
        """The world, a lot."""
        return self._places

    @property
    def told(self):
        """The tuple of the told sayings in their order."""
        return self._told

    @property
    def load(self):
        """The load of the told list over the world."""
        return load_of(self._places, self._told)

    @property
    def changes(self):
        """The number of the changes that can be taken back."""
        return len(self._earlier)

    @property
    def taken_back(self):
        """The number of the changes that can be done again."""
        return len(self._later)

    def __iter__(self):
        return iter(self._told)

    def __contains__(self, saying):
        return saying in self._told

    def add_place(self, place):
        """Put the place into the world."""
        check_new_place(place, self._places)
        places = put_in(self._places, place)
        check_many(places, 5)
        self._change(places, self._told)

    def drop_place(self, place):
        """Take the place out of the world."""
        check_place(place, places=self._places)
        for saying in self._told:
            if place in places_of(saying):
                raise InUse(saying)
        self._change(take_out(self._places, place), self._told)

    def tell(self, saying):
        """Put the saying at the end of the told list."""
        check_saying(saying, places=self._places)
        told = self._told + (saying,)
        check_many(told, 10)
        self._change(self._places, told)

    def untell(self, saying):
        """Take the first told saying that is equal to this one out of the told list."""
        check_saying(saying, places=self._places)
        if saying not in self._told:
            raise NotTold(saying)
        self._change(self._places, take_out(self._told, saying))

    def shorten(self):
        """Replace the told list by its core; the number of the dropped sayings."""
        core = tuple(core_of(self._places, self._told))
        dropped = len(self._told) - len(core)
        if dropped > 0:
            self._change(self._places, core)
        return dropped

    def _change(self, places, told):
        """Go on to a new state; what was taken back before cannot be done again."""
        self._earlier.append((self._places, self._told))
        self._later = []
        self._places = places
        self._told = told

    def back(self):
        """Take back the last change."""
        if not self._earlier:
            raise NoChange()
        self._later.append((self._places, self._told))
        self._places, self._told = self._earlier.pop()

    def forth(self):
        """Do the change again that was taken back last."""
        if not self._later:
            raise NoChange()
        self._earlier.append((self._places, self._told))
        self._places, self._told = self._later.pop()

    def twin(self):
        """A new desk with the same world and told list and with empty histories."""
        desk = Desk(self._places)
        desk._told = self._told
        return desk

    def greatest(self):
        """The greatest webs of the told list."""
        return greatest_webs(self._places, self._told)

    def goal_follows(self, goal):
        """True if the goal follows from the told list."""
        return follows(self._places, self._told, goal)

    def goal_counterweb(self, goal):
        """The first greatest web that does not keep the goal, or None."""
        return counterweb(self._places, self._told, goal)

    def goal_answer(self, goal):
        """A tree of cases for the goal if it follows, otherwise a web that shows that it does not."""
        return answer(self._places, self._told, goal)

    def consequence_book(self):
        """The book of all sayings that follow from the told list."""
        return consequences(self._places, self._told)

    def what_if(self, goal, *, extra=()):
        """True if the goal would follow from the told list with the extra sayings behind it."""
        check_saying(goal, places=self._places)
        check_told(extra, places=self._places)
        return follows(self._places, self._told + tuple(extra), goal)
