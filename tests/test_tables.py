"""Tests of keepsapart.tables: points [3] to [9] and [67] to [74] and the interface."""

import random
import unittest
from itertools import combinations, permutations, product

from keepsapart.books import Book
from keepsapart.brokenrule import rules_broken
from keepsapart.errors import BadCell, BadLot, BadNumber, BadPlace, BadTable, OtherPlaces, TooMany, Unknown
from keepsapart.tables import (
    Table, crossed_evenly, holds, table_book, table_of, table_web, uneven_cell, web_failing,
)
from keepsapart.webs import Web, all_tied, no_ties
from tests.helper import (
    FIVE, FORTY, SEVEN, TWELVE, Case, all_ties, joined, kept_by, lies_within, lots_of, triples, webs_of_many,
    webs_up_to,
)

TWO = FIVE[:2]
THREE = FIVE[:3]
FOUR = FIVE[:4]
SMALL = Table(TWO, [1, 2, 3, 4])
GREAT = 10 ** 100 - 1


def cells(many):
    return list(product((0, 1), repeat=many))


def some_tables(places, many):
    """Tables over a world: with equal counts, with few different ones, with many, with great ones, and products."""
    draw = random.Random(len(places) * 100 + many)
    size = 2 ** len(places)
    found = [Table(places, [3] * size)]
    for k in range(many):
        most = (2, 3, 9, GREAT)[k % 4]
        found.append(Table(places, [draw.randint(1, most) for _ in range(size)]))
        factors = [[draw.randint(1, 3) for _ in (0, 1)] for _ in places]
        shared = [[draw.randint(1, 3) for _ in range(4)] for _ in places]
        counts = []
        for cell in cells(len(places)):
            count = 1
            for at, value in enumerate(cell):
                count *= factors[at][value] if k % 3 else shared[at][value + 2 * cell[at - 1]]
            counts.append(count)
        found.append(Table(places, counts))
    return found


def margin(table, lot):
    """The counts of the margin over a lot, in a dict by the cells."""
    at = [table.places.index(place) for place in lot]
    found = {cell: 0 for cell in cells(len(lot))}
    for cell, count in zip(cells(len(table.places)), table.counts):
        found[tuple(cell[k] for k in at)] += count
    return found


def uneven_cells(table, saying):
    """All uneven cells of a saying, by the definition, ascending."""
    x, z, y = saying
    places = joined(x, z, y)
    found = []
    rows = [(lot, margin(table, lot)) for lot in (places, z, joined(x, z), joined(z, y))]
    for cell in cells(len(places)):
        worth = dict(zip(places, cell))
        whole, middle, near, far = [row[tuple(worth[place] for place in lot)] for lot, row in rows]
        if whole * middle != near * far:
            found.append(cell)
    return found


def book_by_definition(table):
    return [saying for saying in triples(table.places) if not uneven_cells(table, saying)]


class TableTest(Case):

    def test_places_counts_and_total(self):
        self.same_kind((SMALL.places, SMALL.counts, SMALL.total), (TWO, (1, 2, 3, 4), 10))
        table = Table(counts=(5, 1, 1, 1, 2, 2, 2, 2), places=THREE)
        self.same_kind((table.places, table.counts, table.total), (THREE, (5, 1, 1, 1, 2, 2, 2, 2), 16))
        self.same_kind(Table(FIVE, [GREAT] * 32).total, 32 * GREAT)

    def test_the_table_without_places(self):
        table = Table((), [7])
        self.same_kind((table.places, table.counts, table.total), ((), (7,), 7))
        self.same_kind(table.at(()), 7)
        self.assertEqual(table.margin(()), table)
        self.assertEqual(table * Table((), (6,)), Table((), [42]))
        self.assertEqual(table * SMALL, Table(TWO, [7, 14, 21, 28]))
        self.assertEqual(table_web(table), Web(()))
        self.assertEqual(table_book(table), Book(()))
        self.assertEqual(table_of(Web(())), Table((), [1]))
        self.assertIsNone(web_failing(table, Web(())))
        self.refused(Unknown("a"), table.fixed, "a", 0)
        self.refused(BadTable(0), Table, (), [])
        self.refused(BadTable(2), Table, (), [1, 1])
        self.refused(BadTable(0), Table, (), [0])

    def test_a_list_of_counts_is_not_kept(self):
        counts = [1, 2, 3, 4]
        table = Table(TWO, counts)
        counts[0] = 9
        counts.append(5)
        self.same_kind(table.counts, (1, 2, 3, 4))
        self.assertEqual(table, SMALL)

    def test_checks(self):
        self.checks_world(lambda places: Table(places, [0]), 5)
        for many in range(6):
            places = FIVE[:many]
            for found in (0, 1, 2, 3, 4, 5, 8, 16, 31, 33, 64, 700):
                if found != 2 ** many:
                    self.refused(BadTable(found), Table, places, [0] * found)
                    self.refused(BadTable(found), Table, places, (1,) * found)
            for index in range(2 ** many):
                for count in (0, -1, -999999999):
                    counts = [1] * index + [count] + [0] * (2 ** many - index - 1)
                    self.refused(BadTable(index), Table, places, counts)
                    self.refused(BadTable(index), Table, counts=tuple(counts), places=places)

    def test_the_count_of_a_cell(self):
        for places in (TWO, THREE, FIVE):
            for table in some_tables(places, 2):
                for cell, count in zip(cells(len(places)), table.counts):
                    self.same_kind(table.at(cell), count)
                    self.same_kind(table.at(cell=cell), count)
        for cell in (
            (), (0,), (0, 0, 0), (0, 2), (2, 0), (-1, 1), (1, -1), (0, 999999999), (2, 2, 2), (0,) * 700, (5,),
        ):
            self.refused(BadCell(cell), SMALL.at, cell)
        self.refused(BadCell((0,)), Table((), [1]).at, (0,))

    def test_equal_tables(self):
        self.assertTrue(SMALL == Table(TWO, (1, 2, 3, 4)))
        self.assertFalse(SMALL != Table(TWO, (1, 2, 3, 4)))
        for other in (
            Table(TWO, [1, 2, 4, 3]), Table(("a", "c"), [1, 2, 3, 4]), Table(THREE, [1] * 8), (1, 2, 3, 4),
            [1, 2, 3, 4],
            None, 10, "table", TWO, Web(TWO), Book(TWO), True, {},
        ):
            self.assertIs(SMALL == other, False)
            self.assertIs(SMALL != other, True)
            self.assertIs(other == SMALL, False)


class MarginTest(Case):

    def test_margins_are_sums(self):
        for places in ((), ("a",), TWO, THREE, FOUR, FIVE, SEVEN[:5]):
            for table in some_tables(places, 3):
                for lot in lots_of(places):
                    found = table.margin(lot)
                    self.same_kind(found.places, lot)
                    self.same_kind(found.counts, tuple(margin(table, lot).values()))
                    self.assertEqual(found.total, table.total)
                self.assertEqual(table.margin(lot=places), table)
                self.same_kind(table.margin(()).counts, (table.total,))

    def test_the_examples_of_the_document(self):
        self.same_kind(SMALL.margin(("b",)).counts, (4, 6))
        self.same_kind(SMALL.fixed("a", 1).counts, (3, 4))
        self.same_kind(SMALL.margin(("a",)).counts, (3, 7))
        self.same_kind(SMALL.fixed(value=0, place="b").counts, (1, 3))

    def test_fixed_tables(self):
        for places in (("a",), TWO, THREE, FOUR, FIVE):
            for table in some_tables(places, 2):
                for at, place in enumerate(places):
                    for value in (0, 1):
                        found = table.fixed(place, value)
                        rows = zip(cells(len(places)), table.counts)
                        self.same_kind(found.places, places[:at] + places[at + 1:])
                        self.same_kind(found.counts, tuple(count for cell, count in rows if cell[at] == value))

    def test_checks(self):
        table = Table(FOUR, [1] * 16)
        self.checks_lot(table.margin)
        self.checks_place(lambda place: table.fixed(place, 2))
        for value in (2, -1, 10, 999999999, -999999999):
            self.refused(BadNumber(value), table.fixed, "a", value)
            self.refused(Unknown("x"), table.fixed, "x", value)


class ProductTest(Case):

    def test_products_are_those_of_the_definition(self):
        worlds = ((), ("a",), TWO, ("b", "c"), ("a", "c", "e"), THREE, ("d",), FIVE, ("c", "d"))
        for first, second in product(worlds, worlds):
            for one, other in zip(some_tables(first, 2), some_tables(second, 2)[::-1]):
                found = one * other
                places = tuple(sorted(set(first) | set(second)))
                self.same_kind(found.places, places)
                wanted = []
                for cell in cells(len(places)):
                    worth = dict(zip(places, cell))
                    factors = [tuple(worth[place] for place in lot) for lot in (first, second)]
                    wanted.append(one.at(factors[0]) * other.at(factors[1]))
                self.same_kind(found.counts, tuple(wanted))
                self.assertEqual(other * one, found)

    def test_at_most_five_places(self):
        first = Table(THREE, [1] * 8)
        for many in range(3):
            self.assertEqual((first * Table(("x", "y")[:many], [1] * 2 ** many)).total, 8 * 2 ** many)
        second = Table(("w", "x", "y"), [1] * 8)
        self.refused(TooMany(5, 6), lambda: first * second)
        self.refused(TooMany(5, 6), lambda: second * first)
        self.refused(TooMany(5, 10), lambda: Table(FIVE, [1] * 32) * Table(TWELVE[7:], [1] * 32))

    def test_great_counts(self):
        table = Table(TWO, [GREAT, 1, GREAT, GREAT])
        self.same_kind((table * table).counts, (GREAT ** 2, 1, GREAT ** 2, GREAT ** 2))
        self.same_kind(table.margin(("a",)).counts, (GREAT + 1, 2 * GREAT))
        self.same_kind(uneven_cell(table, (("a",), (), ("b",))), (0, 0))
        self.assertIs(holds(Table(TWO, [GREAT] * 4), (("a",), (), ("b",))), True)


class HoldsTest(Case):

    def test_uneven_cells_are_those_of_the_definition(self):
        for places, many in ((TWO, 8), (THREE, 8), (FOUR, 4), (SEVEN[:4], 2), (FIVE, 1)):
            for table in some_tables(places, many):
                for saying in triples(places)[::1 if len(places) < 5 else 11]:
                    found = uneven_cells(table, saying)
                    self.same_kind(uneven_cell(table, saying), found[0] if found else None)
                    self.assertIs(holds(table, saying), not found)

    def test_examples(self):
        even = Table(TWO, [1, 2, 2, 4])
        self.assertIs(holds(even, (("a",), (), ("b",))), True)
        self.assertIs(holds(saying=(("b",), (), ("a",)), table=SMALL), False)
        self.same_kind(uneven_cell(saying=(("b",), (), ("a",)), table=SMALL), (0, 0))
        self.assertIsNone(uneven_cell(even, (("b",), (), ("a",))))
        table = Table(THREE, [1, 1, 1, 1, 1, 2, 3, 4])
        self.same_kind(uneven_cell(table, (("b",), ("a",), ("c",))), (1, 0, 0))
        self.same_kind(uneven_cell(table, (("c",), ("a",), ("b",))), (1, 0, 0))

    def test_checks(self):
        table = Table(FOUR, [1] * 16)
        for function in (holds, uneven_cell):
            self.checks_saying(lambda saying: function(table, saying))
            self.refused(Unknown("a"), function, Table((), [1]), (("a",), (), ("b",)))

    def test_pairs_that_are_crossed_evenly(self):
        for places in (TWO, THREE, FOUR, FIVE):
            for table in some_tables(places, 4):
                for a, b in permutations(places, 2):
                    others = tuple(place for place in places if place not in (a, b))
                    wanted = all(self.evenly(table, dict(zip(others, cell)), a, b) for cell in cells(len(others)))
                    self.assertIs(crossed_evenly(table, a, b), wanted)
                    self.assertIs(crossed_evenly(b=b, a=a, table=table), wanted)
                    self.assertIs(holds(table, ((a,), others, (b,))), wanted)

    def evenly(self, table, worth, a, b):
        count = {}
        for i, j in cells(2):
            worth = {**worth, a: i, b: j}
            count[i, j] = table.at(tuple(worth[place] for place in table.places))
        return count[0, 0] * count[1, 1] == count[0, 1] * count[1, 0]

    def test_checks_of_crossed_evenly(self):
        table = Table(FOUR, [1] * 16)
        self.checks_place(lambda place: crossed_evenly(table, place, "A"))
        self.checks_place(lambda place: crossed_evenly(table, "a", place))
        self.refused(BadLot(("c", "c")), crossed_evenly, table, "c", "c")
        self.refused(Unknown("x"), crossed_evenly, table, "x", "x")
        self.refused(BadPlace("A"), crossed_evenly, table, "a", "A")


class WebOfTableTest(Case):

    def test_the_web_ties_each_pair_that_is_not_crossed_evenly(self):
        for places in ((), TWO, THREE, FOUR, FIVE):
            for table in some_tables(places, 6):
                pairs = [(a, b) for a, b in combinations(places, 2) if not crossed_evenly(table, a, b)]
                self.assertEqual(table_web(table=table), Web(places, pairs))

    def test_what_the_web_keeps_holds_and_the_web_is_the_least_such_web(self):
        for places in (TWO, THREE, FOUR):
            for table in some_tables(places, 5):
                book = set(book_by_definition(table))
                web = table_web(table)
                self.assertLessEqual(kept_by(places, web.ties), book)
                for ties in all_ties(places):
                    if kept_by(places, ties) <= book:
                        self.assertTrue(lies_within(web, Web(places, ties)))

    def test_the_book_of_a_table(self):
        broken = set()
        for places in ((), ("a",), TWO, THREE, FOUR):
            for table in some_tables(places, 12) + self.odd_tables(places):
                book = table_book(table=table)
                self.same_kind(book.places, places)
                self.same_kind(book.sayings, tuple(book_by_definition(table)))
                broken |= set(rules_broken(book))
        # Rules 3 and 5 may be broken, and no other one is.
        self.assertEqual(broken, {3, 5})

    def odd_tables(self, places):
        """Tables in which the last place tells whether an odd number of the others is 1, or nearly so."""
        return [
            Table(places, [count if sum(cell) % 2 else 1 for cell in cells(len(places))]) for count in (1, 2, 5)
        ]

    def test_at_most_four_places(self):
        table = Table(FIVE, [1] * 32)
        self.refused(TooMany(4, 5), table_book, table)
        self.refused(TooMany(4, 5), web_failing, table, Web(()))
        self.refused(TooMany(5, 6), table_of, no_ties(SEVEN[:6]))
        self.refused(TooMany(5, 7), table_of, all_tied(SEVEN))


class TableOfWebTest(Case):

    def test_counts_are_those_of_the_definition(self):
        for web in webs_up_to(4) + webs_of_many(FIVE, 60):
            table = table_of(web=web)
            self.same_kind(table.places, web.places)
            wanted = []
            for cell in cells(len(web.places)):
                worth = dict(zip(web.places, cell))
                wanted.append(2 ** sum(worth[a] == worth[b] for a, b in web.ties))
            self.same_kind(table.counts, tuple(wanted))

    def test_the_book_of_the_table_is_the_book_of_the_web(self):
        for web in webs_up_to(4):
            self.assertEqual(set(table_book(table_of(web)).sayings), set(kept_by(web.places, web.ties)))

    def test_the_web_of_the_table_is_the_web(self):
        for web in webs_up_to(4) + webs_of_many(FIVE, 100):
            self.assertEqual(table_web(table_of(web)), web)


class WebFailingTest(Case):

    def test_the_least_saying_that_the_web_keeps_and_that_does_not_hold(self):
        for places in ((), TWO, THREE, FOUR):
            for table in some_tables(places, 2):
                book = set(book_by_definition(table))
                for ties in all_ties(places)[::3]:
                    failing = sorted(kept_by(places, ties) - book)
                    self.same_kind(web_failing(table, Web(places, ties)), failing[0] if failing else None)
        self.same_kind(web_failing(web=no_ties(TWO), table=SMALL), (("a",), (), ("b",)))

    def test_checks(self):
        self.refused(OtherPlaces(TWO, THREE), web_failing, SMALL, no_ties(THREE))
        self.refused(OtherPlaces((), SEVEN), web_failing, Table((), [1]), no_ties(SEVEN))
        self.refused(TooMany(4, 5), web_failing, Table(FIVE, [1] * 32), no_ties(FORTY[:4]))


if __name__ == "__main__":
    unittest.main()
