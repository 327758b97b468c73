"""Tests of keepsapart.books: points [3] to [9], [24], [25] and [29] and the interface."""

import unittest
from itertools import combinations

from keepsapart.apart import keeps
from keepsapart.books import Book, book_within, first_difference, full_book, turn_book
from keepsapart.errors import BadLot, BadPlace, BadSaying, OtherPlaces, Repeated, TooMany, Unknown
from keepsapart.sayings import all_sayings, turned
from keepsapart.webs import Web, all_webs
from tests.helper import FORTY, SEVEN, Case

THREE = ("a", "b", "c")
FIVE = ("a", "b", "c", "d", "e")
ALL = all_sayings(THREE)
FIRST = (("a",), (), ("b",))
SECOND = (("a",), ("c",), ("b",))
THIRD = (("b",), (), ("a", "c"))


def small_books():
    """All books over three places of up to three of the first six sayings."""
    return [Book(THREE, chosen) for many in range(4) for chosen in combinations(ALL[:6], many)]


class MakeTest(Case):

    def test_properties(self):
        book = Book(THREE, [THIRD, FIRST, SECOND])
        self.same_kind(book.places, THREE)
        self.same_kind(book.sayings, (FIRST, SECOND, THIRD))
        self.same_kind(book.many, 3)
        self.assertEqual(Book(sayings=(FIRST, THIRD, SECOND), places=THREE), book)

    def test_the_book_without_sayings(self):
        for many in range(6):
            for book in (Book(FIVE[:many]), Book(FIVE[:many], []), Book(FIVE[:many], ())):
                self.same_kind(book.places, FIVE[:many])
                self.same_kind(book.sayings, ())
                self.same_kind(book.many, 0)
                self.same_kind(list(book), [])

    def test_a_saying_may_be_there_without_its_turned_saying(self):
        book = Book(THREE, [FIRST])
        self.assertIs(FIRST in book, True)
        self.assertIs(turned(FIRST) in book, False)

    def test_the_largest_book(self):
        sayings = all_sayings(FIVE)
        book = Book(FIVE, list(reversed(sayings)))
        self.same_kind(book.sayings, tuple(sayings))
        self.same_kind(book.many, 570)
        self.refused(Repeated(sayings[0]), Book, FIVE, sayings + sayings[:130])

    def test_the_world_is_checked_first(self):
        for make in (Book, lambda places, sayings: full_book(places)):
            self.refused(BadPlace("A"), make, SEVEN[::-1] + ("A",), [((), (), ("A",))])
            self.refused(BadLot(SEVEN[::-1]), make, SEVEN[::-1], [((), (), ("A",))])
            self.refused(TooMany(5, 6), make, SEVEN[:6], [((), (), ("A",))])
            self.refused(TooMany(5, 40), make, FORTY, [])

    def test_each_saying_is_checked_completely_before_the_next(self):
        bad = (("A",), (), ())
        self.refused(BadPlace("A"), Book, THREE, [FIRST, (("A",), ("B",), ()), FIRST])
        self.refused(BadLot(("b", "a")), Book, THREE, [(("b", "a"), ("B",), ()), bad])
        self.refused(Unknown("x"), Book, THREE, [(("x",), ("B",), ()), bad])
        self.refused(Unknown("x"), Book, THREE, ((("a",), (), ("x",)), bad))
        self.refused(BadPlace("B"), Book, THREE, [((), ("c", "b", "B"), ("x",)), bad])
        self.refused(BadSaying(((), ("a",), ("b",))), Book, THREE, [((), ("a",), ("b",)), bad])
        self.refused(BadSaying((("a",), ("b",), ("b",))), Book, THREE, [FIRST, (("a",), ("b",), ("b",)), FIRST])
        self.refused(Repeated(FIRST), Book, THREE, [FIRST, SECOND, FIRST, SECOND, bad])
        self.refused(Repeated(SECOND), Book, THREE, [FIRST, SECOND, SECOND, FIRST])
        self.refused(Unknown("a"), Book, (), [FIRST])

    def test_a_list_that_is_changed_later_has_no_effect(self):
        sayings = [THIRD, FIRST]
        book = Book(THREE, sayings)
        self.assertEqual(sayings, [THIRD, FIRST])
        sayings.append(SECOND)
        sayings[0] = turned(FIRST)
        self.same_kind(book.sayings, (FIRST, THIRD))
        self.assertEqual([saying in book for saying in (FIRST, SECOND, THIRD)], [True, False, True])
        self.assertEqual(book.many, 2)


class OperatorsTest(Case):

    def test_in(self):
        book = Book(THREE, [FIRST, THIRD])
        for saying in ALL:
            self.assertIs(saying in book, saying in (FIRST, THIRD))
            self.assertIs(saying not in book, saying not in (FIRST, THIRD))

    def test_raw_sayings_are_not_checked(self):
        for raw in (((), (), ()), (("A",), (), ("b",)), (("b", "a"), (), ("c",)), (("a", "a"), (), ("b",)), (FORTY,) * 3,
                    (("x",), (), ("y",)), (("a",), ("a",), ("a",))):
            self.assertIs(raw in full_book(THREE), False)
            self.assertIs(raw in Book(()), False)

    def test_iteration(self):
        self.same_kind(list(Book(THREE, ALL[::-1])), ALL)
        self.same_kind([saying for saying in Book(THREE, (THIRD, FIRST))], [FIRST, THIRD])

    def test_equal_books(self):
        for book in small_books():
            for other in small_books():
                self.assertIs(book == other, book.sayings == other.sayings)
                self.assertIs(book != other, book.sayings != other.sayings)

    def test_other_values_are_not_equal(self):
        book = Book(THREE, [FIRST])
        others = (
            Book(THREE), Book(("a", "b"), [FIRST]), Book(FIVE, [FIRST]), Book(()), Web(THREE), None, 0, 1, True, "",
            (FIRST,), [FIRST], {}, {FIRST}, {FIRST: True}, (THREE, (FIRST,)), Book,
        )
        for other in others:
            self.assertIs(book == other, False)
            self.assertIs(book != other, True)
            self.assertIs(other == book, False)
            self.assertIs(other != book, True)
        self.assertIs(Book(()) == Web(()), False)
        self.assertIs(Web(()) == Book(()), False)

    def test_and_or_minus(self):
        for first in small_books():
            for second in small_books():
                left, right = set(first.sayings), set(second.sayings)
                self.same_kind((first & second).sayings, tuple(sorted(left & right)))
                self.same_kind((first | second).sayings, tuple(sorted(left | right)))
                self.same_kind((first - second).sayings, tuple(sorted(left - right)))
        book = Book(THREE, [FIRST]) & Book(THREE, [FIRST, SECOND])
        self.same_kind(book.places, THREE)
        self.assertEqual(book, Book(THREE, [FIRST]))

    def test_operators_do_not_change_the_books(self):
        first, second = Book(THREE, [FIRST, SECOND]), Book(THREE, [SECOND, THIRD])
        for made in (first & second, first | second, first - second, first.with_saying(THIRD)):
            self.assertIsInstance(made, Book)
        self.same_kind(first.sayings, (FIRST, SECOND))
        self.same_kind(second.sayings, (SECOND, THIRD))

    def test_operators_with_books_over_other_worlds(self):
        for first, second in ((("a",), ("a", "b")), ((), ("a",)), (("a", "b"), ("a", "c"))):
            for left, right in ((first, second), (second, first)):
                error = OtherPlaces(left, right)
                self.refused(error, lambda: Book(left) & Book(right))
                self.refused(error, lambda: Book(left) | Book(right))
                self.refused(error, lambda: Book(left) - Book(right))
                self.refused(error, book_within, Book(left), Book(right))
                self.refused(error, first_difference, Book(left), Book(right))
                self.refused(error, book_within, big=Book(right), small=Book(left))
                self.refused(error, first_difference, second=Book(right), first=Book(left))


class MethodsTest(Case):

    def test_with_and_without_a_saying(self):
        for book in small_books():
            for saying in ALL[:8]:
                more = Book(THREE, sorted(set(book.sayings) | {saying}))
                fewer = Book(THREE, sorted(set(book.sayings) - {saying}))
                self.assertEqual(book.with_saying(saying), more)
                self.assertEqual(book.without_saying(saying), fewer)
                self.assertIs(saying in book.with_saying(saying=saying), True)
                self.assertIs(saying in book.without_saying(saying=saying), False)

    def test_checks_of_with_and_without_a_saying(self):
        book = Book(THREE, [FIRST])
        for method in (book.with_saying, book.without_saying):
            self.refused(BadPlace("A"), method, (("A",), ("B",), ()))
            self.refused(BadLot(("b", "a")), method, (("b", "a"), ("B",), ()))
            self.refused(Unknown("d"), method, (("a", "d"), ("B",), ()))
            self.refused(BadPlace("B"), method, ((), ("B",), ("x",)))
            self.refused(Unknown("x"), method, (("a",), ("a",), ("x",)))
            self.refused(BadSaying((("a",), ("b",), ())), method, (("a",), ("b",), ()))
            self.refused(BadSaying((("a",), ("a",), ("b",))), method, saying=(("a",), ("a",), ("b",)))


class FunctionsTest(Case):

    def test_full_book(self):
        for many in range(6):
            book = full_book(FIVE[:many])
            self.same_kind(book.places, FIVE[:many])
            self.same_kind(book.sayings, tuple(all_sayings(FIVE[:many])))
            self.same_kind(book.many, (0, 0, 2, 18, 110, 570)[many])
        self.assertEqual(full_book(places=("a", "b")), Book(("a", "b"), [FIRST, turned(FIRST)]))

    def test_turn_book(self):
        for book in small_books():
            wanted = tuple(sorted((right, between, left) for left, between, right in book.sayings))
            self.same_kind(turn_book(book).sayings, wanted)
            self.same_kind(turn_book(book=book).places, THREE)
        self.assertEqual(turn_book(Book(())), Book(()))
        self.assertEqual(turn_book(full_book(FIVE)), full_book(FIVE))

    def test_book_within(self):
        for small in small_books():
            for big in small_books():
                wanted = set(small.sayings) <= set(big.sayings)
                self.assertIs(book_within(small, big), wanted)
                self.assertIs(book_within(big=big, small=small), wanted)
        self.assertIs(book_within(Book(()), Book(())), True)

    def test_first_difference(self):
        for first in small_books():
            for second in small_books():
                wanted = min(set(first.sayings) ^ set(second.sayings), default=None)
                self.same_kind(first_difference(first, second), wanted)
                self.same_kind(first_difference(second=second, first=first), wanted)
        self.assertIsNone(first_difference(Book(()), Book(())))
        self.same_kind(first_difference(full_book(FIVE), Book(FIVE)), all_sayings(FIVE)[0])

    def test_books_of_all_that_a_web_keeps_tell_the_webs_apart(self):
        webs = all_webs(THREE)
        books = [Book(THREE, [saying for saying in ALL if keeps(web, saying)]) for web in webs]
        for k, first in enumerate(webs):
            for j, second in enumerate(webs):
                self.assertIs(books[k] == books[j], k == j)
                more_ties = set(second.ties) <= set(first.ties)
                self.assertIs(book_within(books[k], books[j]), more_ties)


if __name__ == "__main__":
    unittest.main()
