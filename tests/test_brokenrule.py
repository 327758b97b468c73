"""Tests of keepsapart.brokenrule: points [33] to [37] and the interface."""

import unittest
from itertools import combinations

from keepsapart.books import Book, full_book
from keepsapart.brokenrule import (
    breaks_alone, broken_use, broken_uses, closure, filled, is_broken_use, rules_broken, sample_book, singles_of,
    small_book,
)
from keepsapart.errors import BadNumber, BadRule, TooFew, TooMany
from keepsapart.sayings import turned
from tests.helper import FIVE, FORTY, NO_LOTS, NO_SAYINGS, SEVEN, TWELVE, UNKNOWN, Case, triples, uses_over

THREE = FIVE[:3]
FOUR = FIVE[:4]
A, B, C = ("a",), ("b",), ("c",)
BC = ("b", "c")

# The sample books over a, b and c, as point [36] writes them.
SAMPLES = {
    1: [(A, (), BC), (A, (), B), (A, (), C), (A, B, C), (A, C, B)],
    2: [(A, (), BC), (BC, (), A)],
    3: [(A, (), B), (B, (), A), (A, (), C), (C, (), A)],
    4: [(A, C, B), (B, C, A), (A, B, C), (C, B, A)],
    5: [(A, (), B), (B, (), A), (A, C, B), (B, C, A)],
}
BASES = [(A, (), B), (A, (), C), (A, B, C), (A, C, B), (B, (), C), (B, A, C)]


def some_books():
    """Books to try everything on: without sayings, small ones, samples, full ones and others."""
    books = [Book(FIVE[:many]) for many in range(5)] + [full_book(FIVE[:many]) for many in range(5)]
    books += [Book(THREE, triples(THREE)[k:k + step]) for k in range(0, 18, 3) for step in (1, 4, 9)]
    books += [Book(FOUR, triples(FOUR)[k::step]) for step in (2, 3, 5, 29) for k in (0, 1)]
    books += [sample_book(rule, FIVE[:many]) for rule in range(1, 6) for many in (3, 4)]
    return books + [Book(THREE, chosen) for chosen in combinations(triples(THREE)[:7], 3)]


def broken_by_definition(book, rules=(1, 2, 3, 4, 5)):
    """The uses that are broken in a book, by the definition."""
    held = set(book.sayings)
    return [
        use for use in uses_over(book.places)
        if use[0] in rules and set(use[1]) <= held and not set(use[2]) & held
    ]


def closure_by_definition(book, rules):
    """The closure of a book, found by taking in what a broken use concludes until none is broken."""
    held = set(book.sayings)
    uses = [use for use in uses_over(book.places) if use[0] in rules]
    missing = True
    while missing:
        missing = [use[2][0] for use in uses if set(use[1]) <= held and use[2][0] not in held]
        held |= set(missing)
    return Book(book.places, sorted(held))


class BrokenTest(Case):

    def test_broken_uses_are_those_of_the_definition(self):
        for book in some_books() + [sample_book(rule, FIVE) for rule in range(1, 6)] + [full_book(FIVE), Book(FIVE)]:
            wanted = broken_by_definition(book)
            self.same_kind(broken_uses(book), wanted)
            self.same_kind(broken_uses(book=book, rules=(1, 2, 3, 4, 5)), wanted)
            self.same_kind(broken_use(book), wanted[0] if wanted else None)
            self.same_kind(rules_broken(book), sorted({use[0] for use in wanted}))
            rules = sorted({use[0] for use in wanted})
            self.same_kind(breaks_alone(book), rules[0] if len(rules) == 1 else None)

    def test_some_of_the_rules(self):
        for book in some_books()[::3]:
            wanted = broken_by_definition(book)
            for rules in ((), (1,), (2, 5), (3, 4), (1, 2, 3, 4)):
                found = [use for use in wanted if use[0] in rules]
                self.same_kind(broken_uses(book, rules=rules), found)
                self.same_kind(broken_use(book=book, rules=rules), found[0] if found else None)

    def test_the_judge_agrees(self):
        for book in some_books()[::4]:
            wanted = broken_by_definition(book)
            for use in uses_over(book.places):
                self.assertIs(is_broken_use(book, use), use in wanted)
                self.assertIs(is_broken_use(use=use, book=book), use in wanted)

    def test_raw_uses_that_are_no_uses_are_not_broken(self):
        held = (A, (), B)
        book = Book(THREE, [held, (A, C, B)])
        self.assertIs(is_broken_use(book, (1, (held,), ((B, (), A),))), True)
        for use in (
            (2, (held,), ((B, (), A),)), (1, (held,), ((A, (), C),)), (0, (held,), ((B, (), A),)),
            (6, (held,), ((B, (), A),)), (1, (), ((B, (), A),)), (1, (held,), ()), (1, (), ()), (-1, (), ()),
            (1, (held, held), ((B, (), A),)), (1, (held,), ((B, (), A), (B, (), A))),
            (1, ((A, (), C),), ((C, (), A),)), (3, (held,), ((A, C, B),)), (4, (held,), (held,)),
            (5, (held,), ((A, (), C), (C, (), B))[::-1]), (3, (held,), ((A, ("d",), B),)),
        ):
            self.assertIs(is_broken_use(book, use), False)
        for lots in NO_SAYINGS + tuple(lots for lots, _ in NO_LOTS + UNKNOWN) + ((FORTY, FORTY, FORTY),):
            for rule in (0, 1, 2, 3, 4, 5, 6):
                self.assertIs(is_broken_use(book, (rule, (lots,), (lots,))), False)
                self.assertIs(is_broken_use(book, (rule, (held,), (lots,))), False)
                self.assertIs(is_broken_use(book, (rule, (held, lots), (lots,) * 700)), False)
        self.assertIs(is_broken_use(Book(()), (1, (held,), ((B, (), A),))), False)

    def test_the_example_of_the_document(self):
        self.same_kind(rules_broken(sample_book(4, THREE)), [4])
        self.same_kind(broken_use(sample_book(4, THREE)), (4, ((A, B, C), (A, C, B)), ((A, (), BC),)))

    def test_checks_of_rules_and_new_lists(self):
        book = sample_book(4, THREE)
        self.checks_rules(lambda rules: broken_uses(book, rules=rules), 5)
        self.checks_rules(lambda rules: broken_use(book, rules=rules), 5)
        for function in (broken_uses, rules_broken):
            self.fresh_list(function, book)
            self.fresh_list(function, Book(()))


class ClosureTest(Case):

    def test_closures_are_those_of_the_definition(self):
        for book in some_books():
            self.assertEqual(closure(book), closure_by_definition(book, (1, 2, 3, 4)))
        for book in some_books()[::5]:
            for rules in ((), (1,), (2,), (3,), (4,), (1, 4), (1, 2, 3), (2, 3, 4), (1, 2, 3, 4)):
                found = closure(rules=rules, book=book)
                self.assertEqual(found, closure_by_definition(book, rules))
                self.assertIsNone(broken_use(found, rules=rules))
        self.assertEqual(closure(Book(())), Book(()))
        self.assertEqual(closure(full_book(FOUR)), full_book(FOUR))
        self.assertEqual(closure(Book(FOUR)), Book(FOUR))

    def test_checks(self):
        self.refused(TooMany(4, 5), closure, Book(FIVE))
        self.refused(TooMany(4, 5), closure, full_book(FIVE), rules=(0,))
        self.checks_rules(lambda rules: closure(Book(FOUR), rules=rules), 4)
        self.refused(BadRule(5), closure, Book(()), rules=(1, 5))
        self.refused(BadRule(5), closure, Book(THREE), rules=(5,))
        self.refused(BadRule(5), closure, Book(THREE), rules=(1, 2, 3, 4, 5))

    def test_the_book_stays(self):
        book = Book(THREE, [(A, (), BC)])
        self.assertEqual(closure(book).many, 10)
        self.same_kind(book.sayings, ((A, (), BC),))


class FilledTest(Case):

    def test_single_sayings(self):
        for book in some_books():
            wanted = [saying for saying in book.sayings if len(saying[0]) == len(saying[2]) == 1]
            self.same_kind(singles_of(book), wanted)
            self.same_kind(singles_of(book=book), wanted)
        self.same_kind(singles_of(Book(())), [])
        self.fresh_list(singles_of, full_book(THREE))

    def test_filled_books(self):
        for book in some_books() + [full_book(FIVE), Book(FIVE, triples(FIVE)[::3])]:
            held = set(book.sayings)
            wanted = [
                (x, z, y) for x, z, y in triples(book.places) if all(((a,), z, (b,)) in held for a in x for b in y)
            ]
            self.assertEqual(filled(book), Book(book.places, wanted))
            self.assertEqual(filled(book=book).places, book.places)

    def test_a_filled_book_need_not_contain_the_book(self):
        self.assertEqual(filled(Book(THREE, [(A, (), BC), (A, (), B)])), Book(THREE, [(A, (), B)]))
        self.assertEqual(filled(Book(THREE, [(A, (), C), (A, (), B)])).sayings, ((A, (), B), (A, (), BC), (A, (), C)))


class SampleTest(Case):

    def test_sample_books_over_three_places(self):
        for rule in range(1, 6):
            self.assertEqual(sample_book(rule, THREE), Book(THREE, SAMPLES[rule]))
            self.assertEqual(sample_book(places=THREE, rule=rule), Book(THREE, SAMPLES[rule]))

    def test_further_places_are_between(self):
        self.same_kind(sample_book(2, FIVE).sayings, ((A, ("d", "e"), BC), (BC, ("d", "e"), A)))
        self.same_kind(
            sample_book(4, FOUR).sayings,
            ((A, ("b", "d"), C), (A, ("c", "d"), B), (B, ("c", "d"), A), (C, ("b", "d"), A)),
        )
        found = sample_book(5, ("ab", "b", "bb", "zzzzzz")).sayings
        self.assertIn((("ab",), ("bb", "zzzzzz"), ("b",)), found)
        self.assertIn((("ab",), ("zzzzzz",), ("b",)), found)

    def test_each_sample_book_breaks_its_rule_and_no_other(self):
        for places in (THREE, FOUR, FIVE, SEVEN[2:7], ("k", "kk", "z")):
            for rule in range(1, 6):
                book = sample_book(rule, places)
                self.same_kind(rules_broken(book), [rule])
                self.same_kind(breaks_alone(book), rule)
                self.assertEqual({use[0] for use in broken_by_definition(book)}, {rule})
        self.assertIsNone(breaks_alone(Book(THREE)))
        self.assertIsNone(breaks_alone(Book(THREE, [(A, (), B)])))

    def test_checks(self):
        for rule in (0, 6, -1, 999999999, -999999999):
            self.refused(BadRule(rule), sample_book, rule, ("b", "A"))
        self.checks_world(lambda places: sample_book(3, places), 5)
        for many in range(3):
            self.refused(TooFew(3, many), sample_book, 1, FIVE[:many])
            self.refused(TooFew(3, many), sample_book, places=FIVE[:many], rule=5)


class SmallTest(Case):

    def test_the_numbers_are_sums_of_powers_of_two(self):
        for number in range(64):
            bases = [base for k, base in enumerate(BASES) if number // 2 ** k % 2 == 1]
            wanted = Book(THREE, bases + [turned(base) for base in bases])
            self.assertEqual(small_book(THREE, number), wanted)
            self.assertEqual(small_book(number=number, places=THREE), wanted)
        self.assertEqual(small_book(THREE, 0), Book(THREE))
        self.same_kind(small_book(("x", "xx", "y"), 8).sayings, ((("x",), ("y",), ("xx",)), (("xx",), ("y",), ("x",))))

    def test_exactly_eight_filled_books_are_closed(self):
        for places in (THREE, ("k", "l", "zzzzzz")):
            closed = [number for number in range(64) if not rules_broken(filled(small_book(places, number)))]
            self.assertEqual(len(closed), 8)
            self.assertEqual(closed, [
                number for number in range(64) if not broken_by_definition(filled(small_book(places, number)))
            ])

    def test_checks(self):
        self.checks_world(lambda places: small_book(places, 64), 3)
        for many in range(3):
            self.refused(TooFew(3, many), small_book, FIVE[:many], 64)
        self.refused(TooMany(3, 12), small_book, TWELVE, 0)
        for number in (64, -1, 65, 127, 999999999, -999999999):
            self.refused(BadNumber(number), small_book, THREE, number)


if __name__ == "__main__":
    unittest.main()
