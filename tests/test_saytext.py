"""Tests of keepsapart.saytext: points [13] and [26] to [28] and the interface."""

import unittest

from keepsapart.books import Book, full_book
from keepsapart.errors import BadSaying, BadText
from keepsapart.saytext import book_text, read_book, read_saying, read_told, saying_text, told_text
from tests.helper import (
    FIVE, FORTY, NO_LOTS, NO_PLACES, NO_SAYING_LINES, NO_SAYINGS, SEVEN, TWELVE, Case, triples, written,
)

FOUR = FIVE[:4]
SAYING = (("b",), ("c",), ("a",))


class SayingTest(Case):

    def not_read(self, text, line):
        self.refused(BadText(line), read_saying, text)

    def test_written_sayings(self):
        self.same_kind(saying_text((("a", "b"), (), ("c",))), "a b | | c")
        self.same_kind(saying_text(saying=(("zzzzzz",), ("a", "b"), ("c", "d"))), "zzzzzz | a b | c d")
        self.same_kind(read_saying("a b | | c"), (("a", "b"), (), ("c",)))
        self.same_kind(read_saying(text="zzzzzz | a b | c d"), (("zzzzzz",), ("a", "b"), ("c", "d")))

    def test_reading_a_written_saying_gives_an_equal_saying(self):
        large = (FORTY[:15], FORTY[15:25], FORTY[25:])
        for saying in triples(FIVE) + triples(TWELVE[1:4]) + [large, large[::-1], (FORTY[:20], (), FORTY[20:])]:
            self.same_kind(saying_text(saying), written(saying))
            self.same_kind(read_saying(saying_text(saying)), saying)

    def test_the_saying_is_checked_without_a_world(self):
        for lots, error in NO_LOTS:
            self.refused(error, saying_text, lots)
        for lots in NO_SAYINGS:
            self.refused(BadSaying(lots), saying_text, lots)

    def test_lines_that_are_no_saying(self):
        for line in NO_SAYING_LINES + [written(lots) for lots in NO_SAYINGS]:
            self.not_read(line, 1)
            self.not_read(line + "\na | | b", 1)
        for text in NO_PLACES:
            if text != "a b":
                self.not_read(text + " | | b", 1)
                self.not_read("a | | " + text, 1)
            if text not in ("", "a b"):
                self.not_read("c | " + text + " | d", 1)

    def test_no_second_line_is_allowed(self):
        for line in ("", " ", "a | | b", "wrong"):
            self.not_read("a | | b\n" + line, 2)
            self.not_read("a | | b\n" + line + "\nwrong", 2)
        self.not_read("\na | | b", 1)
        self.not_read("\n", 1)

    def test_long_texts(self):
        self.not_read("a" * 20000, 1)
        self.not_read("\n" * 20000, 1)
        self.not_read(" ".join(["|"] * 200), 1)
        self.not_read("a | | b" + "\na | | b" * 2000, 2)


class ToldTest(Case):

    def not_read(self, text, line):
        self.refused(BadText(line), read_told, text)

    def test_written_told_lists(self):
        self.same_kind(told_text(("a", "b", "c"), [SAYING]), "told a b c\nsay b | c | a")
        self.same_kind(told_text(told=(SAYING, SAYING), places=FOUR), "told a b c d\nsay b | c | a\nsay b | c | a")
        self.same_kind(read_told("told a b c\nsay b | c | a"), (("a", "b", "c"), [SAYING]))
        self.same_kind(read_told(text="told a b c\nsay b | c | a"), (("a", "b", "c"), [SAYING]))

    def test_the_empty_told_list(self):
        for many in range(8):
            text = " ".join(("told",) + SEVEN[:many])
            self.same_kind(told_text(SEVEN[:many], []), text)
            self.same_kind(told_text(SEVEN[:many], ()), text)
            self.same_kind(read_told(text), (SEVEN[:many], []))

    def test_reading_a_written_told_list_gives_an_equal_list(self):
        sayings = triples(FIVE)
        for k in range(0, 560, 7):
            told = [sayings[k + 3], sayings[k], sayings[k + 9], sayings[k]] * 2 + sayings[k:k + 2]
            self.same_kind(read_told(told_text(FIVE, told)), (FIVE, told))
            self.same_kind(read_told(told_text(FIVE, tuple(told))), (FIVE, told))
        told = [(SEVEN[:3], SEVEN[3:5], SEVEN[5:])]
        self.same_kind(read_told(told_text(SEVEN, told)), (SEVEN, told))

    def test_the_list_that_is_returned_is_new(self):
        text = told_text(FOUR, [SAYING])
        read_told(text)[1].append("changed")
        self.same_kind(read_told(text), (FOUR, [SAYING]))
        told = [SAYING]
        told_text(FOUR, told)
        self.assertEqual(told, [SAYING])

    def test_checks_of_told_text(self):
        self.checks_world(lambda places: told_text(places, [(("A",), (), ())]), 7)
        self.checks_list(lambda told: told_text(FOUR, told))

    def test_line_1_that_is_not_allowed(self):
        lines = [
            "", " ", "Told", "tol", "tolda", "tolds a", " told", "told ", "told  a", "told a ", "told a  b", "told b a",
            "told a a", "told A", "told abcdefg", "say a | | b", "web a b", "book a b", "told a b | c", "told |",
            "told " + " ".join(TWELVE[:8]), "told " + " ".join(FORTY), "told " + " ".join(["a"] * 199),
        ]
        for line in lines:
            self.not_read(line, 1)
            self.not_read(line + "\nsay a | | b", 1)
            self.not_read(line + "\nwrong", 1)

    def test_say_lines_that_are_not_allowed(self):
        lines = [
            "say", "say ", "Say a | | b", "say  a | | b", " say a | | b", "says a | | b", "saya | | b", "a | | b",
            "tell a | | b", "say say a | | b", "tie a b", "say a | | b\\n", "say x | | b", "say a | x | b",
            "say a | | x", "say a | | aa", "say a | | b d e", "told a b c d",
        ]
        for line in lines + ["say " + line for line in NO_SAYING_LINES] + NO_SAYING_LINES:
            self.not_read("told a b c d\n" + line, 2)
            self.not_read("told a b c d\n" + line + "\nwrong", 2)
            self.not_read("told a b c d\nsay d | | a\n" + line, 3)
        self.not_read("told a b\nsay a | | c", 2)
        self.not_read("told\nsay a | | b", 2)

    def test_at_most_ten_sayings_are_allowed(self):
        text = "told a b" + "\nsay a | | b" * 10
        self.same_kind(read_told(text), (("a", "b"), [(("a",), (), ("b",))] * 10))
        self.not_read(text + "\nsay a | | b", 12)
        self.not_read(text + "\nwrong", 12)
        self.not_read("told a b" + "\nsay a | | b" * 1600, 12)
        self.not_read("told a b\nsay a | | b\nwrong" + "\nsay a | | b" * 12, 3)

    def test_line_feeds_at_the_ends(self):
        self.not_read("", 1)
        self.not_read("\n", 1)
        self.not_read("told\n", 2)
        self.not_read("told a b\nsay a | | b\n", 3)
        self.not_read("\ntold a b", 1)
        self.not_read("told a b\n\nsay a | | b", 2)


class BookTest(Case):

    def not_read(self, text, line):
        self.refused(BadText(line), read_book, text)

    def test_written_books(self):
        book = Book(("a", "b", "c"), [SAYING, (("a",), (), ("b", "c"))])
        text = "book a b c\nsay a | | b c\nsay b | c | a"
        self.same_kind(book_text(book), text)
        self.same_kind(book_text(book=book), text)
        self.assertEqual(read_book(text), book)
        self.assertEqual(read_book(text=text), book)
        self.assertIsInstance(read_book(text), Book)

    def test_books_without_sayings(self):
        for many in range(6):
            text = " ".join(("book",) + FIVE[:many])
            self.same_kind(book_text(Book(FIVE[:many])), text)
            self.assertEqual(read_book(text), Book(FIVE[:many]))

    def test_reading_a_written_book_gives_an_equal_book(self):
        for many in range(6):
            sayings = triples(FIVE[:many])
            for step in (1, 2, 3, 7):
                book = Book(FIVE[:many], sayings[::step])
                self.assertEqual(read_book(book_text(book)), book)
                self.assertEqual(book_text(book).count("\n"), book.many)
        book = Book(("a", "aa", "b"), triples(("a", "aa", "b")))
        self.assertEqual(read_book(book_text(book)), book)

    def test_line_1_that_is_not_allowed(self):
        lines = [
            "", " ", "Book", "boo", "booka", " book", "book ", "book  a", "book a ", "book b a", "book a a", "book A",
            "book abcdefg", "told a b", "web a", "book a b c d e f", "book " + " ".join(FORTY), "book a | b",
        ]
        for line in lines:
            self.not_read(line, 1)
            self.not_read(line + "\nsay a | | b", 1)
            self.not_read(line + "\nwrong", 1)

    def test_say_lines_that_are_not_allowed(self):
        lines = ["say", "say ", "Say a | | b", " say a | | b", "say  a | | b", "saya | | b", "tie a b", "book a b c d"]
        lines += ["say x | | b", "say a | x | b", "say a | | x", "say a | | e"]
        for line in lines + ["say " + line for line in NO_SAYING_LINES] + NO_SAYING_LINES:
            self.not_read("book a b c d\n" + line, 2)
            self.not_read("book a b c d\n" + line + "\nwrong", 2)
            self.not_read("book a b c d\nsay a | | b\n" + line, 3)

    def test_the_sayings_ascend(self):
        self.not_read("book a b\nsay b | | a\nsay a | | b", 3)
        self.not_read("book a b\nsay a | | b\nsay a | | b", 3)
        self.not_read("book a b c\nsay a | | b c\nsay a | | b", 3)
        self.not_read("book a b c\nsay a | | b\nsay b | | a\nsay a | | c\nwrong", 4)
        # A saying ascends as a tuple does, and not as its text does: the lot of a comes before that of a and b.
        self.assertEqual(read_book("book a b c\nsay a | | b\nsay a b | | c").many, 2)
        self.not_read("book a b c\nsay a b | | c\nsay a | | b", 3)
        self.not_read("book a b c\nsay a | b | c\nsay a | | c", 3)

    def test_line_feeds_at_the_ends(self):
        self.not_read("", 1)
        self.not_read("book\n", 2)
        self.not_read("book a b\nsay a | | b\n", 3)
        self.not_read("\nbook", 1)

    def test_long_texts(self):
        self.not_read("book a b" + "\nsay a | | b" * 1600, 3)
        self.not_read("\n" * 20000, 1)
        self.not_read(book_text(full_book(FIVE)) + "\nsay e | d | c", 572)


if __name__ == "__main__":
    unittest.main()
