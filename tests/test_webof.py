"""Tests of keepsapart.webof: points [17], [22], [25] and [39] to [41] and the interface."""

import unittest

from keepsapart.apart import keeps
from keepsapart.books import Book, full_book
from keepsapart.brokenrule import broken_use, broken_uses, filled, sample_book, small_book
from keepsapart.errors import NotKept, TooMany
from keepsapart.webof import book_of, both_ways, gap, grow, is_both_ways, is_web_book, pairs_apart, web_of
from keepsapart.webs import Web, all_tied, all_webs, no_ties
from tests.helper import (
    FIVE, FORTY, NO_LOTS, NO_PLACES, NO_SAYINGS, SEVEN, UNKNOWN, Case, joined, kept_by, triples, uses_over,
)

THREE = FIVE[:3]
FOUR = FIVE[:4]
RING = Web(FIVE, [("a", "b"), ("b", "c"), ("c", "d"), ("d", "e"), ("a", "e")])


def web_books():
    """All webs over up to four places and some over five, each with its book by the definition."""
    webs = [web for many in range(5) for web in all_webs(FIVE[:many])] + [RING, no_ties(FIVE), all_tied(FIVE)]
    return [(web, Book(web.places, sorted(kept_by(web.places, web.ties)))) for web in webs]


WEB_BOOKS = web_books()


def other_books():
    """Books that are no web's, and a few that are."""
    books = [small_book(THREE, number) for number in range(64)]
    books += [filled(small_book(THREE, number)) for number in range(0, 64, 5)]
    books += [sample_book(rule, FIVE[:many]) for rule in range(1, 6) for many in (3, 4, 5)]
    books += [Book(FOUR, triples(FOUR)[k::step]) for step in (2, 3, 7) for k in (0, 1)]
    books += [book.without_saying(book.sayings[len(book.sayings) // 2]) for _, book in WEB_BOOKS if book.many]
    return books + [Book(FIVE, triples(FIVE)[::4]), full_book(FIVE)]


OTHER_BOOKS = other_books()


def grown(book, saying):
    """The full saying that growing ends with, word by word as point [41] tells it, or None."""
    x, z, y = saying
    held = set(book.sayings)
    while True:
        outside = [place for place in book.places if place not in x + z + y]
        if not outside:
            return (x, z, y)
        g = (min(outside),)
        if (x, z, g) in held:
            y = joined(y, g)
        elif (g, z, y) in held:
            x = joined(x, g)
        else:
            return None


class BookOfTest(Case):

    def test_the_book_of_a_web_is_what_it_keeps(self):
        for web, book in WEB_BOOKS:
            self.assertEqual(book_of(web), book)
            self.assertEqual(book_of(web=web).sayings, tuple(s for s in triples(web.places) if keeps(web, s)))

    def test_the_book_of_a_web_is_closed_and_its_web_is_the_web(self):
        for web, book in WEB_BOOKS:
            self.assertEqual(web_of(book_of(web)), web)
            self.assertEqual(broken_uses(book_of(web)), [])
            self.assertIs(is_web_book(book), True)

    def test_webs_of_more_than_five_places_are_refused(self):
        self.refused(TooMany(5, 6), book_of, Web(SEVEN[:6]))
        self.refused(TooMany(5, 7), book_of, web=all_tied(SEVEN))


class WebOfTest(Case):

    def test_ties_are_the_pairs_whose_pair_saying_is_missing(self):
        for book in OTHER_BOOKS + [book for _, book in WEB_BOOKS]:
            apart = [
                (a, b) for a in book.places for b in book.places
                if a < b and ((a,), tuple(p for p in book.places if p not in (a, b)), (b,)) in book.sayings
            ]
            ties = tuple((a, b) for a in book.places for b in book.places if a < b and (a, b) not in apart)
            self.same_kind(pairs_apart(book), apart)
            self.same_kind(pairs_apart(book=book), apart)
            self.same_kind(web_of(book).ties, ties)
            self.same_kind(web_of(book=book).places, book.places)

    def test_the_turned_pair_saying_is_not_looked_at(self):
        pair = (("a",), ("c",), ("b",))
        self.same_kind(pairs_apart(Book(THREE, [pair])), [("a", "b")])
        self.same_kind(pairs_apart(Book(THREE, [pair[::-1]])), [])
        self.same_kind(web_of(Book(THREE, [pair])).ties, (("a", "c"), ("b", "c")))
        self.assertEqual(web_of(Book(THREE, [pair[::-1]])), all_tied(THREE))
        self.assertEqual(web_of(Book(THREE, [(("a",), (), ("b",))])), all_tied(THREE))

    def test_books_without_places_or_sayings(self):
        for many in range(6):
            self.assertEqual(web_of(Book(FIVE[:many])), all_tied(FIVE[:many]))
            self.assertEqual(web_of(full_book(FIVE[:many])), no_ties(FIVE[:many]))
        self.same_kind(pairs_apart(Book(())), [])
        self.fresh_list(pairs_apart, Book(()))
        self.fresh_list(pairs_apart, full_book(FOUR))

    def test_which_books_are_a_webs(self):
        for book in OTHER_BOOKS:
            wanted = (book.places, book.sayings) in [(other.places, other.sayings) for _, other in WEB_BOOKS]
            held = set(book.sayings)
            closed = not any(set(use[1]) <= held and not set(use[2]) & held for use in uses_over(book.places))
            self.assertIs(is_web_book(book), closed)
            if len(book.places) < 5:
                self.assertIs(is_web_book(book=book), wanted)
        books = {(book.places, book.sayings) for _, book in WEB_BOOKS}
        self.assertEqual(len(books), len(WEB_BOOKS))

    def test_gap(self):
        for book in OTHER_BOOKS:
            web = web_of(book)
            kept = {saying for saying in triples(book.places) if keeps(web, saying)}
            wanted = min(kept ^ set(book.sayings), default=None)
            self.same_kind(gap(book), wanted)
            self.same_kind(gap(book=book), wanted)
        for _, book in WEB_BOOKS:
            self.assertIsNone(gap(book))
        self.assertIsNone(gap(Book(())))


class BothWaysTest(Case):

    def test_both_ways(self):
        for web, book in WEB_BOOKS:
            word, found = both_ways(book)
            self.assertEqual((word, found), ("web", web))
            self.assertIsInstance(found, Web)
        for book in OTHER_BOOKS:
            use = broken_use(book)
            if use is None:
                self.assertEqual(both_ways(book), ("web", web_of(book)))
            else:
                self.same_kind(both_ways(book=book), ("broken", use))

    def test_what_both_ways_returns_is_shown(self):
        for book in OTHER_BOOKS + [book for _, book in WEB_BOOKS]:
            self.assertIs(is_both_ways(book, both_ways(book)), True)
            self.assertIs(is_both_ways(paper=both_ways(book), book=book), True)

    def test_exactly_the_right_papers_are_shown(self):
        webs = [web for web, _ in WEB_BOOKS if len(web.places) == 3]
        for book in OTHER_BOOKS[::3] + [book for web, book in WEB_BOOKS if web in webs]:
            for web in webs + [Web(SEVEN), Web(SEVEN[:6]), Web(()), Web(("x", "y", "z"))]:
                kept = tuple(s for s in triples(web.places) if keeps(web, s)) if len(web.places) < 5 else None
                wanted = web.places == book.places and kept == book.sayings
                self.assertIs(is_both_ways(book, ("web", web)), wanted)
            broken = broken_uses(book)
            for use in uses_over(book.places)[::3]:
                self.assertIs(is_both_ways(book, ("broken", use)), use in broken)

    def test_other_words_and_raw_uses(self):
        book = sample_book(4, THREE)
        use = broken_use(book)
        self.assertIs(is_both_ways(book, ("broken", use)), True)
        for word in ("", "Web", "Broken", "broke", "broken ", "use", "tree", "webs", "\n") + NO_PLACES:
            self.assertIs(is_both_ways(book, (word, use)), False)
        self.assertIs(is_both_ways(book, ("broken", (5,) + use[1:])), False)
        self.assertIs(is_both_ways(book, ("broken", (4, (), ()))), False)
        for lots in NO_SAYINGS + tuple(lots for lots, _ in NO_LOTS + UNKNOWN) + ((FORTY, FORTY, FORTY),):
            self.assertIs(is_both_ways(book, ("broken", (4, use[1], (lots,)))), False)
            self.assertIs(is_both_ways(book, ("broken", (1, (lots,), (lots[::-1],)))), False)
        closed = book_of(all_tied(THREE))
        self.assertIs(is_both_ways(closed, ("web", all_tied(THREE))), True)
        self.assertIs(is_both_ways(closed, ("web", all_tied(FOUR))), False)
        self.assertIs(is_both_ways(Book(()), ("web", Web(()))), True)
        self.assertIs(is_both_ways(Book(()), ("web", Web(SEVEN))), False)


class GrowTest(Case):

    def test_growing_goes_as_the_document_tells(self):
        failed = 0
        for book in OTHER_BOOKS:
            for saying in book.sayings:
                self.same_kind(grow(book, saying), grown(book, saying))
                failed += grow(book, saying) is None
        self.assertGreater(failed, 100)

    def test_in_a_closed_book_growing_ends_with_a_full_saying_of_the_book(self):
        for web, book in WEB_BOOKS:
            for saying in book.sayings:
                found = grow(book, saying)
                self.same_kind(grow(saying=saying, book=book), grown(book, saying))
                self.assertIn(found, book.sayings)
                self.assertEqual(sum(len(lot) for lot in found), len(web.places))
                self.assertEqual(found[1], saying[1])

    def test_a_full_saying_is_not_changed(self):
        for saying in [(("a",), ("b",), ("c",)), (("b", "c"), (), ("a",))]:
            self.same_kind(grow(Book(THREE, [saying]), saying), saying)

    def test_the_right_lot_comes_first(self):
        saying = (("a",), (), ("b",))
        near, far = (("a",), (), ("c",)), (("c",), (), ("b",))
        self.same_kind(grow(Book(THREE, [saying, near, far]), saying), (("a",), (), ("b", "c")))
        self.same_kind(grow(Book(THREE, [saying, far]), saying), (("a", "c"), (), ("b",)))
        self.assertIsNone(grow(Book(THREE, [saying]), saying))
        # Neither the turned sayings nor the present saying itself are looked at.
        self.assertIsNone(grow(Book(THREE, [saying, near[::-1], far[::-1]]), saying))
        self.same_kind(
            grow(Book(FOUR, [saying, near, (("a",), (), ("d",))]), saying), (("a",), (), ("b", "c", "d")),
        )

    def test_checks(self):
        book = sample_book(5, FOUR)
        self.checks_saying(lambda lots: grow(book, lots))
        for saying in ((("a",), (), ("b",)), (("a", "b"), ("c",), ("d",)), (("a",), ("b", "c"), ("d",))):
            self.refused(NotKept(saying), grow, book, saying)
        saying = (("a",), ("c", "d"), ("b",))
        self.refused(NotKept(saying), grow, saying=saying, book=Book(FOUR))


if __name__ == "__main__":
    unittest.main()
