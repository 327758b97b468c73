"""Books: sets of sayings over worlds of at most 5 places."""

from keepsapart.errors import Repeated
from keepsapart.places import check_places, check_same_places
from keepsapart.sayings import all_sayings, check_saying, turned


class Book:
    """A world of at most 5 places, and a set of sayings over it."""

    def __init__(self, places, sayings=()):
        check_places(places, most=5)
        check_sayings(sayings, places)
        self._places = places
        self._sayings = tuple(sorted(sayings))
        self._held = {saying: True for saying in sayings}

    @property
    def places(self):
        """The world, a lot."""
        return self._places

    @property
    def sayings(self):
        """The ascending tuple of the sayings."""
        return self._sayings

    @property
    def many(self):
        """The number of the sayings."""
        return len(self._sayings)

    def with_saying(self, saying):
        """A new book with this saying."""
        check_saying(saying, places=self._places)
        return Book(self._places, [held for held in self._sayings if held != saying] + [saying])

    def without_saying(self, saying):
        """A new book without this saying."""
        check_saying(saying, places=self._places)
        return Book(self._places, [held for held in self._sayings if held != saying])

    def __eq__(self, other):
        return isinstance(other, Book) and self._places == other._places and self._sayings == other._sayings

    def __ne__(self, other):
        return not self == other

    def __contains__(self, saying):
        return saying in self._held

    def __iter__(self):
        return iter(self._sayings)

    def __and__(self, other):
        check_same_places(self._places, other._places)
        return Book(self._places, sorted(set(self._sayings) & set(other._sayings)))

    def __or__(self, other):
        check_same_places(self._places, other._places)
        return Book(self._places, sorted(set(self._sayings) | set(other._sayings)))

    def __sub__(self, other):
        check_same_places(self._places, other._places)
        return Book(self._places, sorted(set(self._sayings) - set(other._sayings)))


def check_sayings(sayings, places):
    """Refuse raw sayings that are not different sayings over the world."""
    seen = {}
    for saying in sayings:
        check_saying(saying, places=places)
        if saying in seen:
            raise Repeated(saying)
        seen[saying] = True


def full_book(places):
    """The book of all sayings over the world."""
    return Book(places, all_sayings(places))


def turn_book(book):
    """The book of the turned sayings of all sayings of the book."""
    return Book(book.places, [turned(saying) for saying in book])


def book_within(small, big):
    """True if each saying of the first book is in the second one."""
    check_same_places(small.places, big.places)
    return all([saying in big for saying in small])


def first_difference(first, second):
    """The least saying that is in exactly one of the two books, or None."""
    check_same_places(first.places, second.places)
    differing = sorted(set(first.sayings) ^ set(second.sayings))
    return differing[0] if differing else None
