"""Tests of keepsapart.script: points [3] to [9], [81] and [82] and the interface."""

import random
import unittest

from keepsapart.alike import counterweb, follows
from keepsapart.desk import Desk
from keepsapart.errors import KeepError, TooMany
from keepsapart.greatwebs import greatest_webs
from keepsapart.script import run_script
from keepsapart.webtext import web_line
from tests.helper import FIVE, NO_PLACES, NO_SAYING_LINES, Case, saying_of, triples, written

FOUR = FIVE[:4]
# A world of three places, and a told list over it.
SETUP = ["add c", "add a", "add b", "tell a | | b", "tell b | c | a"]


def answer_by_definition(desk, line):
    """The answer to a line that is not refused, on a desk that the line runs on."""
    word, _, rest = line.partition(" ")
    if word in ("add", "drop"):
        (desk.add_place if word == "add" else desk.drop_place)(rest)
        return "ok"
    if word in ("back", "forth"):
        (desk.back if word == "back" else desk.forth)()
        return "ok"
    if word == "shorten":
        return "dropped " + str(desk.shorten())
    if word == "load":
        return "load " + str(desk.load)
    if word == "show":
        return " ; ".join([" ".join(("told",) + desk.places)] + ["say " + written(saying) for saying in desk.told])
    if word == "great":
        webs = greatest_webs(desk.places, desk.told)
        return "great " + str(len(webs)) + "".join(" : " + web_line(web) for web in webs)
    saying = saying_of(rest)
    if word in ("tell", "untell"):
        (desk.tell if word == "tell" else desk.untell)(saying)
        return "ok"
    if follows(desk.places, desk.told, saying):
        return "yes"
    return "no" if word == "ask" else "no " + web_line(counterweb(desk.places, desk.told, saying))


class ScriptTest(Case):

    def answers(self, lines, wanted):
        found = run_script(lines)
        self.same_kind(found, wanted)
        self.same_kind(run_script(lines=tuple(lines)), wanted)

    def after_setup(self, rows):
        """The lines of the rows give their answers behind the setup."""
        self.answers(SETUP + [line for line, _ in rows], ["ok"] * 5 + [answer for _, answer in rows])

    def test_the_example_of_the_document(self):
        self.answers(
            ["add b", "add a", "tell b | | a", "ask a | | b", "great", "add a", "show"],
            ["ok", "ok", "ok", "yes", "great 1 : web a b", "refused Repeated", "told a b ; say b | | a"],
        )

    def test_every_command(self):
        self.after_setup([
            ("load", "load 1"), ("show", "told a b c ; say a | | b ; say b | c | a"),
            ("great", "great 2 : web a b c ; tie a c : web a b c ; tie b c"), ("ask a | c | b", "yes"),
            ("ask a | | c", "no"), ("why a | | c", "no web a b c ; tie a c"), ("why b | | a", "yes"),
            ("shorten", "dropped 1"),
            ("show", "told a b c ; say a | | b"), ("shorten", "dropped 0"), ("add d", "ok"), ("load", "load 2"),
            ("back", "ok"),
            ("forth", "ok"), ("drop d", "ok"), ("untell a | | b", "ok"), ("show", "told a b c"), ("load", "load 0"),
            ("great", "great 1 : web a b c ; tie a b ; tie a c ; tie b c"),
            ("why a | | b", "no web a b c ; tie a b ; tie a c ; tie b c"),
        ])

    def test_a_script_runs_on_a_new_desk_without_places(self):
        for _ in range(2):
            self.answers(["show", "load", "great", "shorten"], ["told", "load 0", "great 1 : web", "dropped 0"])
        self.answers(["add a", "show"], ["ok", "told a"])
        self.answers(["show", "back", "forth"], ["told", "refused NoChange", "refused NoChange"])

    def test_the_empty_script_and_the_script_of_forty_lines(self):
        self.answers([], [])
        self.answers(["load"] * 40, ["load 0"] * 40)
        self.answers([""] * 40, ["refused BadText"] * 40)
        for many in (41, 42, 700):
            self.refused(TooMany(40, many), run_script, ["load"] * many)
            self.refused(TooMany(40, many), run_script, ("no command",) * many)
        self.fresh_list(run_script, ["add a", "show"])
        self.fresh_list(run_script, [])

    def test_the_lines_stay_as_they_are(self):
        lines = ["add a", "no command", "show"]
        run_script(lines)
        self.assertEqual(lines, ["add a", "no command", "show"])

    def test_each_class_of_refusal(self):
        self.after_setup([
            ("tell a | b", "refused BadText"), ("add A", "refused BadPlace"), ("add a", "refused Repeated"),
            ("tell a | | x", "refused Unknown"), ("drop x", "refused Unknown"), ("drop c", "refused InUse"),
            ("untell b | | a", "refused NotTold"), ("forth", "refused NoChange"), ("add d", "ok"), ("add e", "ok"),
            ("add f", "refused TooMany"), ("load", "load 5"), ("show", "told a b c d e ; say a | | b ; say b | c | a"),
        ])

    def test_places_are_passed_whatever_they_are(self):
        for text in NO_PLACES + (" ", "  ", "a" * 196, "a b", "a | | b", " a", "a ", "|"):
            self.after_setup([("add " + text, "refused BadPlace"), ("drop " + text, "refused BadPlace")])
        self.answers(["add zzzzzz", "add a", "drop zzzzzz", "show"], ["ok", "ok", "ok", "told a"])
        self.after_setup([("add ", "refused BadPlace"), ("drop ", "refused BadPlace"), ("add", "refused BadText")])

    def test_lines_that_are_no_commands(self):
        for line in (
            "", " ", "add", "drop", "tell", "untell", "ask", "why", "back ", "forth ", "shorten ", "load ", "show ",
            "great ",
            " back", "back a", "forth 1", "shorten all", "load a", "show a", "great 1", "Back", "ADD a", "Add a",
            "adda",
            "add-a", " add a", "tella | | b", "quit", "told a b", "say a | | b", "web a b", "show;", "great :", "a",
            "|",
            "addition a", "asks a | | b", "whya | | b", "x" * 200, "add\\", "undo", "; add a",
        ):
            self.after_setup([(line, "refused BadText"), ("show", "told a b c ; say a | | b ; say b | c | a")])

    def test_rests_that_are_no_written_sayings(self):
        for word in ("tell", "untell", "ask", "why"):
            for text in NO_SAYING_LINES + ["a | | b  ", "x" * 150]:
                self.after_setup([(word + " " + text, "refused BadText")])
            self.after_setup([(word + " a | | d", "refused Unknown"), (word + " d | c | a", "refused Unknown")])
            # The form of the rest is read before anything else, even before a place is found to be unknown.
            self.after_setup([(word + " x | | x", "refused BadText"), (word + " a | | aaaaaaa", "refused BadText")])

    def test_loads_and_lists_beyond_the_bounds(self):
        lines = ["add a", "add b", "add c"] + ["tell a | | b"] * 11
        self.answers(
            lines + ["load", "great", "ask a | | b", "why a | | b", "shorten", "ask a | | d", "tell a | | d"],
            ["ok"] * 13 + ["refused TooMany", "load 10"] + ["refused TooMany"] * 4 + ["refused Unknown"] * 2,
        )
        self.answers(
            lines[:9] + ["great", "tell a | | b", "great", "back", "shorten"],
            ["ok"] * 9 + ["great 2 : web a b c ; tie a c : web a b c ; tie b c"]
            + ["ok", "refused TooMany", "ok", "dropped 5"],
        )

    def test_the_state_does_not_change_where_a_line_is_refused(self):
        bad = ["add a", "drop a", "tell a | | x", "untell a | | c", "nothing", "ask a | | x", "why a", "add ", "tell "]
        self.after_setup([
            ("tell a | | c", "ok"), ("back", "ok"), ("tell a | | x", "refused Unknown"), ("nothing", "refused BadText"),
            ("add a", "refused Repeated"), ("shorten", "dropped 1"), ("forth", "refused NoChange"),
        ])
        for line in bad:
            found = run_script(SETUP + ["tell c | | b", "back", line, "show", "forth", "show"])
            self.assertEqual(found[7].split(" ")[0], "refused")
            self.assertEqual(found[8:], [
                "told a b c ; say a | | b ; say b | c | a", "ok",
                "told a b c ; say a | | b ; say b | c | a ; say c | | b",
            ])

    def test_rows_of_lines_beside_a_desk(self):
        draw = random.Random(81)
        sayings = [written(saying) for saying in triples(FOUR)] + ["a | | b", "b | | a", "a | c | b"] * 8
        words = ["add"] * 3 + ["tell"] * 5 + ["untell", "drop", "ask", "why", "shorten", "great", "load", "show"]
        words += ["back", "forth"] * 2
        refused = set()
        for row in range(60):
            lines = ["add " + place for place in FIVE[:row % 5]]
            while len(lines) < 40:
                word = draw.choice(words)
                if word in ("add", "drop"):
                    word += " " + draw.choice("abcdef")
                if word in ("tell", "untell", "ask", "why"):
                    word += " " + draw.choice(sayings)
                lines.append(word)
            desk = Desk()
            wanted = []
            for line in lines:
                try:
                    wanted.append(answer_by_definition(desk, line))
                except KeepError as error:
                    refused.add(type(error).__name__)
                    wanted.append("refused " + type(error).__name__)
            self.answers(lines, wanted)
        self.assertEqual(refused, {"Repeated", "Unknown", "TooMany", "InUse", "NotTold", "NoChange"})


if __name__ == "__main__":
    unittest.main()
