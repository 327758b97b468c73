"""Tables of counts, and the sayings that hold in them."""

from keepsapart.apart import keeps
from keepsapart.books import Book
from keepsapart.errors import BadCell, BadNumber, BadTable
from keepsapart.places import (
    check_lot, check_many, check_place, check_places, check_same_places, lot_union, pairs_of, take_out,
)
from keepsapart.sayings import all_sayings, check_saying, pair_saying, places_of
from keepsapart.webs import Web


class Table:
    """A world of at most 5 places, and a count for each cell over it."""

    def __init__(self, places, counts):
        check_places(places, most=5)
        check_counts(counts, places)
        self._places = places
        self._counts = tuple(counts)

    @property
    def places(self):
        """The world, a lot."""
        return self._places

    @property
    def counts(self):
        """The tuple of the counts, in ascending order of the cells."""
        return self._counts

    @property
    def total(self):
        """The sum of the counts."""
        return sum(self._counts)

    def at(self, cell):
        """The count of the cell."""
        check_cell(cell, self._places)
        return count_at(self, self._places, cell)

    def margin(self, lot):
        """The table over the lot whose counts are sums of the counts of this table."""
        check_lot(lot, places=self._places)
        sums = [0] * (1 << len(lot))
        for cell, count in zip(cells_of(self._places), self._counts):
            sums[index_in(lot, self._places, cell)] += count
        return Table(lot, sums)

    def fixed(self, place, value):
        """The table over the other places of the cells that give the place this value."""
        check_place(place, places=self._places)
        if value not in (0, 1):
            raise BadNumber(value)
        at = self._places.index(place)
        counts = [count for cell, count in zip(cells_of(self._places), self._counts) if cell[at] == value]
        return Table(take_out(self._places, place), counts)

    def __eq__(self, other):
        return isinstance(other, Table) and self._places == other._places and self._counts == other._counts

    def __ne__(self, other):
        return not self == other

    def __mul__(self, other):
        places = lot_union(self._places, other._places)
        check_many(places, 5)
        cells = cells_of(places)
        return Table(places, [count_at(self, places, cell) * count_at(other, places, cell) for cell in cells])


def check_counts(counts, places):
    """Refuse what is not one count of at least 1 for each cell over the world."""
    if len(counts) != 1 << len(places):
        raise BadTable(len(counts))
    for index, count in enumerate(counts):
        if count < 1:
            raise BadTable(index)


def check_cell(cell, places):
    """Refuse what does not give each place of the world the value 0 or 1."""
    if len(cell) != len(places) or any([value not in (0, 1) for value in cell]):
        raise BadCell(cell)


def cells_of(places):
    """All cells over the world, ascending."""
    cells = [()]
    for _ in places:
        cells = [cell + (value,) for cell in cells for value in (0, 1)]
    return cells


def index_in(lot, places, cell):
    """The index of the cell over the lot that gives its places the values of the cell over the world."""
    index = 0
    for place, value in zip(places, cell):
        if place in lot:
            index = index * 2 + value
    return index


def count_at(table, places, cell):
    """The count of the cell of the table that gives its places the values of the cell over the world."""
    return table.counts[index_in(table.places, places, cell)]


def holds(table, saying):
    """True if the saying holds in the table."""
    return uneven_cell(table, saying) is None


def uneven_cell(table, saying):
    """The first cell over the places of the saying for which the products of counts differ, or None."""
    check_saying(saying, places=table.places)
    left, between, right = saying
    inside = places_of(saying)
    lots = (inside, between, lot_union(left, between), lot_union(between, right))
    margins = [table.margin(lot) for lot in lots]
    for cell in cells_of(inside):
        whole, middle, near, far = [count_at(margin, inside, cell) for margin in margins]
        if whole * middle != near * far:
            return cell
    return None


def crossed_evenly(table, a, b):
    """True if the pair is crossed evenly, whatever the values of the other places."""
    return holds(table, pair_saying(table.places, a, b))


def table_web(table):
    """The web that ties each pair that is not crossed evenly."""
    return Web(table.places, [(a, b) for a, b in pairs_of(table.places) if not crossed_evenly(table, a, b)])


def table_book(table):
    """The book of all sayings that hold in a table of at most 4 places."""
    check_many(table.places, 4)
    return Book(table.places, [saying for saying in all_sayings(table.places) if holds(table, saying)])


def table_of(web):
    """The table of a web of at most 5 places, whose counts double with each tie between equal values."""
    check_many(web.places, 5)
    return Table(web.places, [1 << equal_ties(web, cell) for cell in cells_of(web.places)])


def equal_ties(web, cell):
    """The number of the ties to whose two places the cell gives equal values."""
    worth = {place: value for place, value in zip(web.places, cell)}
    return len([(a, b) for a, b in web.ties if worth[a] == worth[b]])


def web_failing(table, web):
    """The least saying that the web keeps and that does not hold in a table of at most 4 places, or None."""
    check_many(table.places, 4)
    check_same_places(table.places, web.places)
    for saying in all_sayings(table.places):
        if keeps(web, saying) and not holds(table, saying):
            return saying
    return None
