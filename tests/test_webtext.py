"""Tests of keepsapart.webtext: points [13] and [14] and the interface."""

import unittest

from keepsapart.errors import BadText
from keepsapart.webs import Web, all_tied, all_webs
from keepsapart.webtext import read_web, web_line, web_text
from tests.helper import FORTY, NO_PLACES, SEVEN, TWELVE, Case

TEXT = "web a b c\ntie a b\ntie b c"


class WriteTest(Case):

    def test_written_webs(self):
        web = Web(("a", "b", "c"), [("b", "c"), ("a", "b")])
        self.same_kind(web_text(web), TEXT)
        self.same_kind(web_text(web=web), TEXT)
        self.same_kind(web_line(web), "web a b c ; tie a b ; tie b c")
        self.same_kind(web_line(web=web), "web a b c ; tie a b ; tie b c")

    def test_webs_without_ties_or_places(self):
        for function in (web_text, web_line):
            self.same_kind(function(Web(())), "web")
            self.same_kind(function(Web(("zzzzzz",))), "web zzzzzz")
            self.same_kind(function(Web(("a", "aa"))), "web a aa")

    def test_the_largest_web(self):
        lines = web_text(all_tied(SEVEN)).split("\n")
        self.same_kind(lines[0], "web a aa b c d e f")
        self.same_kind(lines[1], "tie a aa")
        self.same_kind(lines[21:], ["tie e f"])


class ReadTest(Case):

    def read_as(self, text, web):
        self.assertEqual(read_web(text), web)
        self.assertEqual(read_web(text=text), web)

    def not_read(self, text, line):
        self.refused(BadText(line), read_web, text)

    def test_read_webs(self):
        self.read_as("web", Web(()))
        self.read_as("web a", Web(("a",)))
        self.read_as("web a b", Web(("a", "b")))
        self.read_as("web a b\ntie a b", Web(("a", "b"), [("a", "b")]))
        self.read_as(TEXT, Web(("a", "b", "c"), [("a", "b"), ("b", "c")]))

    def test_reading_a_written_web_gives_an_equal_web(self):
        for many in range(5):
            for web in all_webs(("a", "ab", "b", "zzzzzz")[:many]):
                self.read_as(web_text(web), web)
        self.read_as(web_text(all_tied(SEVEN)), all_tied(SEVEN))

    def test_line_1_that_is_not_allowed(self):
        lines = [
            "", " ", "Web", "we", "webs", "weba", "tie a b", "told a b", " web", "web ", "web  a", "web a ",
            "web a  b", " web a", "web b a", "web a a", "web a b a", "a", "web a b;", "web,a", "book a b",
            "web " + " ".join(TWELVE[:8]), "web " + " ".join(FORTY), "web " + " ".join(["a"] * 199),
        ]
        for line in lines + ["web " + text for text in NO_PLACES if text != "a b"]:
            self.not_read(line, 1)
            self.not_read(line + "\ntie a b", 1)
            self.not_read(line + "\nwrong", 1)

    def test_tie_lines_that_are_not_allowed(self):
        lines = [
            "", " ", "tie", "tie ", "tie a", "tie a ", "tie a  b", " tie a b", "tie a b ", "tie a b c", "tie  a b",
            "tie b a", "tie a a", "tie a d", "tie x y", "tie aa b", "Tie a b", "ties a b", "a b", "web a b c",
            "tie a b c d", "tiea b", "tie a,b", "tie A b", "tie a 1", "say a | | b", "tie " + " ".join(FORTY),
        ]
        for line in lines:
            self.not_read("web a b c\n" + line, 2)
            self.not_read("web a b c\n" + line + "\nwrong", 2)
            self.not_read("web a b c\ntie a b\n" + line, 3)

    def test_ties_ascend(self):
        self.not_read("web a b c\ntie a c\ntie a b", 3)
        self.not_read("web a b c\ntie a b\ntie a b", 3)
        self.not_read("web a b c\ntie a b\ntie b c\ntie a c", 4)
        self.not_read("web a b c\ntie b c\ntie a b\nwrong", 3)
        self.read_as("web a b c\ntie a b\ntie a c\ntie b c", all_tied(("a", "b", "c")))

    def test_the_empty_text_has_one_line(self):
        self.not_read("", 1)

    def test_a_text_that_ends_with_a_line_feed_has_an_empty_last_line(self):
        self.not_read("web\n", 2)
        self.not_read("web a b\n", 2)
        self.not_read(TEXT + "\n", 4)
        self.not_read("\n" + TEXT, 1)
        self.not_read("\n", 1)
        self.not_read("web a b\n\ntie a b", 2)

    def test_long_texts(self):
        self.not_read("web a b" + "\ntie a b" * 2000, 3)
        self.not_read("\n" * 20000, 1)
        self.not_read("web " + "a" * 19000, 1)
        self.not_read(web_text(all_tied(SEVEN)) + "\ntie e f", 23)

    def test_a_line_of_a_web_is_no_written_web(self):
        self.not_read("web a b ; tie a b", 1)


if __name__ == "__main__":
    unittest.main()
