"""The errors that the program raises on purpose."""


class KeepError(ValueError):
    """The base class of all errors of the program; it is not raised itself."""


class BadPlace(KeepError):
    """A string that should be a place is none."""

    def __init__(self, place):
        self.place = place


class BadLot(KeepError):
    """A tuple of places does not ascend, or is no lot of the wanted kind."""

    def __init__(self, lot):
        self.lot = lot


class Repeated(KeepError):
    """An item occurs that was there before."""

    def __init__(self, item):
        self.item = item


class BadSaying(KeepError):
    """Three lots are no saying, or the saying is not of the wanted kind."""

    def __init__(self, saying):
        self.saying = saying


class Unknown(KeepError):
    """A place is not in the world or the lot that should have it."""

    def __init__(self, place):
        self.place = place


class Shared(KeepError):
    """A place is in lots that should not share it."""

    def __init__(self, place):
        self.place = place


class OtherPlaces(KeepError):
    """Two values speak of different worlds."""

    def __init__(self, first, second):
        self.first = first
        self.second = second


class TooMany(KeepError):
    """More items were found than the bound allows."""

    def __init__(self, bound, found):
        self.bound = bound
        self.found = found


class TooFew(KeepError):
    """Fewer items were found than the bound asks for."""

    def __init__(self, bound, found):
        self.bound = bound
        self.found = found


class BadRule(KeepError):
    """A number is no rule, or the rules do not ascend."""

    def __init__(self, rule):
        self.rule = rule


class BadUse(KeepError):
    """A raw use does not have the shape of a use."""

    def __init__(self, use):
        self.use = use


class BadNumber(KeepError):
    """A number is out of its range."""

    def __init__(self, number):
        self.number = number


class NotKept(KeepError):
    """A saying is not kept, or is not in the book."""

    def __init__(self, saying):
        self.saying = saying


class Disagree(KeepError):
    """Two webs disagree on whether a pair is tied."""

    def __init__(self, pair):
        self.pair = pair


class BadTable(KeepError):
    """The counts of a table are too few, too many or too small."""

    def __init__(self, number):
        self.number = number


class BadCell(KeepError):
    """A tuple of numbers is no cell of the table."""

    def __init__(self, cell):
        self.cell = cell


class NotTold(KeepError):
    """A saying is not told."""

    def __init__(self, saying):
        self.saying = saying


class InUse(KeepError):
    """A told saying still needs the place."""

    def __init__(self, saying):
        self.saying = saying


class BadKind(KeepError):
    """A word names no kind."""

    def __init__(self, word):
        self.word = word


class BadText(KeepError):
    """A line of a text is not allowed; lines are counted from 1."""

    def __init__(self, line):
        self.line = line


class NoChange(KeepError):
    """There is no change to take back or to do again."""
