"""Tests of keepsapart.papertext: points [3] to [9], [13] and [80] and the interface."""

import unittest

from keepsapart.books import Book, full_book
from keepsapart.brokenrule import sample_book
from keepsapart.errors import BadText
from keepsapart.papers import Paper, paper_of_book, paper_of_goal, paper_of_lists, paper_of_saying, paper_of_wall
from keepsapart.papertext import paper_text, read_paper
from keepsapart.webof import book_of
from keepsapart.webs import Web, all_tied, no_ties
from tests.helper import (
    FIVE, NO_SAYING_LINES, SEVEN, Case, derived_trees, kept_by, some_told, triples, webs_up_to,
)

TWO = FIVE[:2]
THREE = FIVE[:3]
FOUR = FIVE[:4]
AB = (("a",), (), ("b",))
BA = AB[::-1]
PART = (("a",), ("c",), ("b",))
LINE = Web(FOUR, [("a", "b"), ("b", "c"), ("c", "d")])
KEPT = (("a",), ("b",), ("c",))
TURN = (1, (AB,), (BA,))
EITHER = (5, (AB,), ((("a",), (), ("c",)), (("c",), (), ("b",))))
LEAF = ("leaf", ())

# One written paper of each kind, and some more, with the paper.
WRITTEN = [
    ("paper apart|web a b c d|tie a b|tie b c|tie c d|say a / b / c|split a / b / c d",
     Paper("apart", LINE, KEPT, (("a",), ("b",), ("c", "d")))),
    ("paper apart|web a b|say a / / b|split b / / a", Paper("apart", no_ties(TWO), AB, BA)),
    ("paper way|web a b c d|tie a b|tie b c|tie c d|say a / d / c|way a b c",
     Paper("way", LINE, (("a",), ("d",), ("c",)), ("a", "b", "c"))),
    ("paper way|web a b|say a / / b|way b b a b", Paper("way", no_ties(TWO), AB, ("b", "b", "a", "b"))),
    ("paper web|book a b|say a / / b|say b / / a|web a b", Paper("web", Book(TWO, [AB, BA]), no_ties(TWO))),
    ("paper web|book a b|web a b|tie a b", Paper("web", Book(TWO), all_tied(TWO))),
    ("paper web|book|web", Paper("web", Book(()), Web(()))),
    ("paper broken|book a b|say a / / b|use 1 : a / / b : b / / a", Paper("broken", Book(TWO, [AB]), TURN)),
    ("paper broken|book a b c|use 4 : a / / b ; a / c / b : a / / b ; b / / a",
     Paper("broken", Book(THREE), (4, (AB, PART), (AB, BA)))),
    ("paper tree|told a b|say a / / b|goal b / / a|step 1 : a / / b : b / / a|leaf",
     Paper("tree", TWO, [AB], BA, ("leaf", (TURN,)))),
    ("paper tree|told a b c|say a / / b|goal b / / a|case 5 : a / / b : a / / c ; c / / b|leaf|"
     "step 1 : a / / b : b / / a|leaf", Paper("tree", THREE, [AB], BA, ("case", (), EITHER, LEAF, ("leaf", (TURN,))))),
    ("paper tree|told a b|goal b / / a|leaf", Paper("tree", TWO, [], BA, LEAF)),
    ("paper counter|told a b c|say a / / b|say a / / b|goal a / / c|web a b c|tie a c",
     Paper("counter", THREE, [AB, AB], (("a",), (), ("c",)), Web(THREE, [("a", "c")]))),
    ("paper counter|told a b|goal a / / b|web a b", Paper("counter", TWO, [], AB, no_ties(TWO))),
    ("paper unlike|told a b|say a / / b|told a b|side second|web a b|tie a b",
     Paper("unlike", TWO, [AB], [], "second", all_tied(TWO))),
    ("paper unlike|told a b|told a b|say a / / b|side first|web a b",
     Paper("unlike", TWO, [], [AB], "first", no_ties(TWO))),
    ("paper unlike|told|told|side first|web", Paper("unlike", (), [], [], "first", Web(()))),
    ("paper wall|web a b c d|tie a b|tie b c|tie c d|say a / b / c|way a b c",
     Paper("wall", LINE, KEPT, [("a", "b", "c")])),
    ("paper wall|web a b|say a / / b", Paper("wall", no_ties(TWO), AB, [])),
    ("paper wall|web a b|say a / / b|way a|way b a b", Paper("wall", no_ties(TWO), AB, [("a",), ("b", "a", "b")])),
]

# Lines that are allowed nowhere in a paper.
JUNK = [
    "", " ", "leaves", "leaf ", " leaf", "say", "say ", "tie", "tie ", "web ", "book ", "told ", "way", "way ",
    "side", "side ",
    "side third", "side First", "side first second", "goal", "goal ", "split", "split ", "use", "use ", "step",
    "step ", "case",
    "case ", "paper", "paper web", "paper apart", "web a a", "web b a", "web A", "told b a", "told a A", "book b a",
    "tie b a", "tie a a", "tie a", "tie a b c", "tie a x", "way x", "way a  b", "way a b ", " way a", "way a A",
    "way a / b",
    "say a / / x", "goal a / / x", "split a / / x", "say a / b", "say a // b", "say  a / / b", "say a / / b ",
    "Say a / / b",
    "use 1 : a / / b : b / / x", "use 1 : a / / b", "use 6 : a / / b : b / / a", "use 0 : a / / b : b / / a",
    "step 5 : a / / b : a / / c ; c / / b", "step 1 : a / / x : x / / a", "case 1 : a / / b : b / / a",
    "case 5 : a / / b : a / / x ; x / / b", "ways a b", "use a / / b", "a", "a b", "a / / b", "/", "1",
]


def text_of(row):
    """The text that a row of lines stands for, in which / stands for the line between two lots."""
    return row.replace("|", "\n").replace("/", "|")


def texts():
    return [text_of(row) for row, _ in WRITTEN]


def made_papers():
    """Papers that the program makes, of all kinds."""
    found = [paper_of_saying(web, saying) for web in webs_up_to(3) for saying in triples(web.places)[::2]]
    for web in webs_up_to(4)[::9]:
        found.append(paper_of_book(book_of(web)))
        found += [paper_of_wall(web, saying) for saying in sorted(kept_by(web.places, web.ties))[::5]]
    found += [paper_of_book(sample_book(rule, places)) for rule in range(1, 6) for places in (THREE, FOUR, FIVE)]
    lists = some_told(FOUR, 4)[::14]
    found += [paper_of_goal(FOUR, told, goal) for told in lists for goal in triples(FOUR)[::23]]
    found += [paper_of_lists(FOUR, first, second) for first in lists for second in lists[::3]]
    found += [Paper("tree", *parts) for parts in derived_trees()[:40]]
    found += [paper_of_book(full_book(FIVE)), paper_of_book(book_of(no_ties(FIVE)))]
    return [paper for paper in found if paper is not None]


class WriteTest(Case):

    def test_papers_are_written_as_the_form_tells(self):
        for row, paper in WRITTEN:
            self.same_kind(paper_text(paper), text_of(row))
            self.same_kind(paper_text(paper=paper), text_of(row))
            self.assertEqual(read_paper(text_of(row)), paper)
            self.assertEqual(read_paper(text=text_of(row)), paper)

    def test_the_example_of_the_document(self):
        found = paper_text(paper_of_saying(no_ties(TWO), AB))
        self.same_kind(found, "paper apart\nweb a b\nsay a | | b\nsplit a | | b")

    def test_reading_a_written_paper_gives_an_equal_paper(self):
        kinds = set()
        for paper in made_papers():
            text = paper_text(paper)
            found = read_paper(text)
            self.assertEqual(found, paper)
            self.same_kind(paper_text(found), text)
            self.assertEqual([type(part) for part in found.parts], [type(part) for part in paper.parts])
            kinds.add(paper.kind)
        self.assertEqual(len(kinds), 8)

    def test_worlds_at_their_bounds(self):
        saying = (SEVEN[:1], (), SEVEN[1:])
        for paper in (
            Paper("apart", all_tied(SEVEN), saying, saying), Paper("way", all_tied(SEVEN), saying, SEVEN + SEVEN[:5]),
            Paper("counter", SEVEN, [saying] * 10, saying, all_tied(SEVEN)),
            Paper("unlike", SEVEN, [saying] * 10, [saying] * 10, "first", no_ties(SEVEN)),
            Paper("wall", no_ties(SEVEN), saying, [SEVEN] * 7), Paper("tree", FIVE, [AB] * 10, AB, LEAF),
            Paper("way", no_ties(SEVEN), saying, ("a",) * 40),
        ):
            self.assertEqual(read_paper(paper_text(paper)), paper)


class ReadTest(Case):

    def not_read(self, text, line):
        self.refused(BadText(line), read_paper, text)

    def rows_not_read(self, rows):
        for row, line in rows:
            self.not_read(text_of(row), line)

    def test_each_beginning_of_a_written_paper_misses_its_next_line_or_is_a_paper(self):
        for text in texts():
            lines = text.split("\n")
            for many in range(1, len(lines)):
                beginning = "\n".join(lines[:many])
                try:
                    self.same_kind(paper_text(read_paper(beginning)), beginning)
                except BadText:
                    self.not_read(beginning, many + 1)

    def test_a_line_that_is_allowed_nowhere_is_the_one_in_the_error(self):
        for text in texts():
            lines = text.split("\n")
            junk = [text_of(line) for line in JUNK] + ["say " + line for line in NO_SAYING_LINES]
            junk += [line + " " for line in lines] + [" " + line for line in lines]
            junk += [line.replace(" ", "  ", 1) for line in lines if " " in line] + [line.upper() for line in lines]
            for at in range(len(lines) + 1):
                for line in junk:
                    # The first line may be of any kind, and the second one of any world.
                    word = line.split(" ")[0]
                    if (at != 0 or word != "paper") and (at != 1 or word not in ("web", "book", "told")):
                        self.not_read("\n".join(lines[:at] + [line] + lines[at:]), at + 1)
                        self.not_read("\n".join(lines[:at] + [line] + lines[at + 1:]), at + 1)

    def test_what_is_read_of_a_changed_text_is_written_again_as_this_text(self):
        read = 0
        for text in texts():
            lines = text.split("\n")
            others = sorted({line for other in texts() for line in other.split("\n")})
            for at in range(1, len(lines) + 1):
                for line in others:
                    for tail in (lines[at:], lines[at + 1:]):
                        changed = "\n".join(lines[:at] + [line] + tail)
                        try:
                            self.same_kind(paper_text(read_paper(changed)), changed)
                            read += 1
                        except BadText as error:
                            self.assertTrue(at + 1 <= error.line <= len(changed.split("\n")) + 1)
        self.assertGreater(read, 200)

    def test_the_first_line(self):
        for line in (
            "", "paper", "paper ", "paper x", "paper Web", "paper web ", " paper web", "paper  web", "Paper web",
            "paper web web",
            "web a b", "paper places", "paper told", "paper saying", "papers web", "paper|web", "apart",
        ):
            self.not_read(line, 1)
            self.not_read(line + "\nbook\nweb", 1)
        for kind in ("apart", "way", "web", "broken", "tree", "counter", "unlike", "wall"):
            self.not_read("paper " + kind, 2)
            self.not_read("paper " + kind + "\n", 2)
        self.not_read("\n" * 20000, 1)
        self.not_read("p" * 20000, 1)

    def test_the_line_of_the_world(self):
        eight = " a aa b c d e f g"
        six = " a b c d e f"
        self.rows_not_read([
            ("paper apart|web" + eight, 2), ("paper way|book a b", 2), ("paper web|book" + six, 2),
            ("paper web|web a b", 2),
            ("paper broken|book" + six, 2), ("paper broken|told a b", 2), ("paper tree|told" + six + "|leaf", 2),
            ("paper tree|web a b", 2), ("paper counter|told" + eight, 2), ("paper unlike|told" + eight, 2),
            ("paper unlike|web a b", 2), ("paper wall|web" + eight, 2), ("paper wall|say a / / b", 2),
            ("paper tree|told b a", 2), ("paper tree|say a / / b", 2), ("paper apart|web a a|say", 2),
        ])
        self.assertEqual(read_paper(text_of("paper counter|told" + six + "|goal a / / b|web" + six)).parts[0][5], "f")

    def test_further_worlds_are_that_of_the_paper(self):
        self.rows_not_read([
            ("paper web|book a b|web a c", 3), ("paper web|book a b|web a b c", 3), ("paper web|book a b|web a", 3),
            ("paper web|book a b|web", 3), ("paper web|book a b|say a / / b|web b", 4),
            ("paper web|book a b|web b a", 3),
            ("paper counter|told a b c|goal a / / b|web a b", 4), ("paper counter|told a b|goal a / / b|web a b c", 4),
            ("paper unlike|told a b|told a b c", 3), ("paper unlike|told a b|say a / / b|told a", 4),
            ("paper unlike|told a b|told a c|say a / / x", 3),
            ("paper unlike|told a b|told a b|side first|web a c|tie x y", 5),
            ("paper unlike|told a b|told a b|side first|web", 5),
            ("paper unlike|told a b|told a b|side first|web b a", 5),
        ])

    def test_sayings_ways_and_uses_are_over_the_world(self):
        self.rows_not_read([
            ("paper apart|web a b|say a / / c", 3), ("paper apart|web a b|say a / / b|split a / / c", 4),
            ("paper apart|web a b|say a / c / b|split a / / b", 3),
            ("paper apart|web a b|say a / / b|split a / c / b", 4),
            ("paper way|web a b|say a / / b|way a c", 4), ("paper way|web a b|say a / / b|way aa", 4),
            ("paper broken|book a b|say a / / c", 3), ("paper broken|book a b|use 1 : a / / b : b / / c", 3),
            ("paper broken|book a b|use 1 : a / / c : b / / a", 3), ("paper tree|told a b|say a / / c", 3),
            ("paper tree|told a b|goal a / / c", 3), ("paper counter|told a b|goal c / / a", 3),
            ("paper unlike|told a b|told a b|say a / c / b", 4), ("paper wall|web a b|say a / / b|way a|way c", 5),
            ("paper way|web a b|say a / / b|way A", 4), ("paper way|web a b|say a / / b|way abcdefg", 4),
        ])

    def test_the_lines_of_a_tree(self):
        head = "paper tree|told a b|goal a / / b|"
        step = "step 1 : a / / b : b / / a|"
        case = "case 5 : a / / b : a / / b ; a / / b|"
        far = "step 1 : a / / c : c / / a|"
        self.rows_not_read([
            (head + "leaf|leaf", 5), (head + "leaf|" + step + "leaf", 5), (head + step + "x", 5),
            (head + case + "leaf", 6),
            (head + case + "leaf|leaf|leaf", 7), (head + case + case + "leaf|leaf", 8), (head + far + "leaf", 4),
            (head + step + far + "leaf", 5), (head + "x|" + far, 4), (head + far + "x", 4), (head + "leaf|" + far, 5),
            (head + case + far + "x", 5), (head + case + "x|" + far, 5), (head + "case 5 : a / / b : a / / b|leaf", 4),
            (head + case + "leaf|" + far + "leaf", 6), (head + "case 5 : a / / b : a / / c ; c / / b|leaf|leaf", 4),
            (head + "step 1 : a / / b : b / / a ; a / / b|leaf", 4), (head + "goal a / / b|leaf", 4),
            (head + "leaf|", 5),
            (head + "use 1 : a / / b : b / / a|leaf", 4), (head + "step 5 : a / / c : a / / b|leaf", 4), (head[:-1], 4),
        ])
        paper = read_paper(text_of(head + case + "step 5 : a / / b ; b / / a : b / / a|leaf|leaf"))
        self.assertEqual(paper.parts[3][3], ("leaf", ((5, (AB, BA), (BA,)),)))

    def test_thirty_cases_on_a_path(self):
        case = "case 5 : a / / b : a / / b ; b / / a|"
        for rows in (case * 30 + "leaf|" * 30 + "leaf", (case + "leaf|") * 30 + "leaf"):
            text = text_of("paper tree|told a b|goal a / / b|" + rows)
            paper = read_paper(text)
            self.same_kind(paper_text(paper), text)
            self.not_read(text + "\nleaf", len(text.split("\n")) + 1)
            self.not_read(text[:-5], len(text.split("\n")))

    def test_lists_and_ways_at_their_bounds(self):
        say = "say a / / b|"
        told = "told a b|" + say * 10
        self.assertEqual(len(read_paper(text_of("paper tree|" + told + "goal a / / b|leaf")).parts[1]), 10)
        self.rows_not_read([
            ("paper tree|" + told + say + "goal a / / b|leaf", 13), ("paper counter|" + told + say + say, 13),
            ("paper unlike|" + told + told + say, 24), ("paper unlike|told a b|" + told + say, 14),
        ])
        wall = "paper wall|web a b|say a / / b"
        self.assertEqual(len(read_paper(text_of(wall + "|way a" * 7)).parts[2]), 7)
        self.rows_not_read([
            (wall + "|way a" * 8, 11), (wall + "|way a" * 20, 11), (wall + "|way a|way", 5), (wall + "|way a|", 5),
            (wall + "|tie a b", 4), (wall + "|say a / / b", 4), (wall + "|way a|side first", 5),
            ("paper way|web a b|say a / / b|way a|way b", 5), ("paper way|web a b|say a / / b", 4),
        ])

    def test_parts_stand_in_their_order(self):
        self.rows_not_read([
            ("paper apart|web a b|split a / / b|say a / / b", 3), ("paper apart|web a b|say a / / b|tie a b", 4),
            ("paper apart|web a b|say a / / b|say a / / b", 4), ("paper apart|web a b|tie a b|tie a b", 4),
            ("paper apart|web a b c|tie b c|tie a b", 4), ("paper web|book a b|say b / / a|say a / / b", 4),
            ("paper web|book a b|say a / / b|say a / / b", 4), ("paper web|book a b|web a b|say a / / b", 4),
            ("paper web|book a b|web a b|tie a b|tie a b", 5), ("paper web|book a b|web a b|web a b", 4),
            ("paper broken|book a b|use 1 : a / / b : b / / a|say a / / b", 4), ("paper broken|book a b|web a b", 3),
            ("paper counter|told a b|goal a / / b|say a / / b", 4), ("paper counter|told a b|web a b", 3),
            ("paper counter|told a b|goal a / / b|goal a / / b", 4), ("paper counter|told a b|goal a / / b|leaf", 4),
            ("paper unlike|told a b|told a b|goal first", 4), ("paper unlike|told a b|told a b|sides second", 4),
            ("paper broken|book a b|step 1 : a / / b : b / / a", 3), ("paper way|web a b|say a / / b|side a b", 4),
            ("paper unlike|told a b|side first|web a b", 3), ("paper unlike|told a b|told a b|told a b", 4),
            ("paper unlike|told a b|told a b|web a b|side first", 4),
            ("paper unlike|told a b|told a b|side first|side second", 5),
            ("paper tree|told a b|leaf", 3), ("paper tree|goal a / / b|leaf", 2), ("paper tree|told a b|told a b", 3),
            ("paper way|web a b|way a|say a / / b", 3), ("paper apart|web a b|web a b", 3),
            ("paper broken|book a b|say a / / b|book a b", 4), ("paper broken|book a b|say a / / b|", 4),
            ("paper web|book a b|web a b|", 4), ("paper apart|web a b|say a / / b|split a / / b|", 5),
        ])

    def test_long_texts_end_soon(self):
        self.rows_not_read([
            ("paper way|web a b|" + "tie a b|" * 2400, 4), ("paper tree|told a b|" + "say a / / b|" * 1600, 13),
            ("paper tree|told a b|goal a / / b|" + "step 1 : a / / b : b / / a|" * 700, 704),
            ("paper way|web a b|say a / / b|way a" + " a" * 30 + "|" * 19000, 5), ("paper web|" + "|" * 19000, 2),
        ])


if __name__ == "__main__":
    unittest.main()
