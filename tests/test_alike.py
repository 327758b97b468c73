"""Tests of keepsapart.alike: points [47] and [48] and the interface."""

import unittest

from keepsapart.alike import (
    alike, consequences, core_of, counterweb, follows, is_counterweb, is_unlike, unlike,
)
from keepsapart.books import Book, full_book
from keepsapart.errors import BadPlace, TooMany, Unknown
from keepsapart.greatwebs import greatest_webs
from keepsapart.webs import Web, all_tied, all_webs, no_ties
from tests.helper import BAD, FIVE, NO_PLACES, SEVEN, Case, kept_by, some_told, triples, web_keeps

TWO = FIVE[:2]
THREE = FIVE[:3]
FOUR = FIVE[:4]
AB = (("a",), (), ("b",))
BA = AB[::-1]
PART = (("a",), ("c",), ("b",))
HEAVY = [AB] * 7


def following(places, told):
    """All sayings that follow from a told list, by the definition: all webs that keep the list keep them."""
    found = set(triples(places))
    for web in all_webs(places):
        if web_keeps(web, told):
            found &= kept_by(web.places, web.ties)
    return found


def lists_of(places):
    """Told lists over a world with loads of at most 6, some of them alike."""
    told = some_told(places, 3)[:40]
    return told + [list(reversed(sayings)) for sayings in told[:10]] + [sayings + sayings[:1] for sayings in told[:10]]


class FollowsTest(Case):

    def test_what_follows_is_what_the_definition_tells(self):
        for places in (TWO, THREE, FOUR):
            for told in some_told(places, 6)[::2]:
                wanted = following(places, told)
                greatest = greatest_webs(places, told)
                for goal in triples(places)[::9] + told[:1]:
                    self.assertIs(follows(places, told, goal), goal in wanted)
                    failing = [web for web in greatest if not web_keeps(web, [goal])]
                    web = counterweb(places, told, goal)
                    self.assertEqual(web, failing[0] if failing else None)
                    self.assertIs(web is None, goal in wanted)
                    self.assertTrue(web is None or is_counterweb(web, told, goal))

    def test_arguments_by_name(self):
        for goal in triples(THREE):
            told = [AB, PART]
            self.assertIs(follows(goal=goal, told=tuple(told), places=THREE), follows(THREE, told, goal))
            self.assertEqual(counterweb(goal=goal, told=tuple(told), places=THREE), counterweb(THREE, told, goal))

    def test_consequences(self):
        for many in range(5):
            places = FIVE[:many]
            for told in some_told(places, 6)[::3] if many > 1 else [[]]:
                wanted = Book(places, sorted(following(places, told)))
                self.assertEqual(consequences(places, told), wanted)
                self.assertEqual(consequences(told=tuple(told), places=places), wanted)
        self.assertEqual(consequences(FOUR, []), Book(FOUR))
        self.assertEqual(consequences(FOUR, [(("a",), (), ("b", "c", "d")), (("b",), (), ("a", "c", "d")),
                                             (("c",), (), ("a", "b", "d"))]), full_book(FOUR))

    def test_the_world_does_not_matter(self):
        for told in some_told(THREE, 2)[:30]:
            for goal in triples(THREE)[::2]:
                wanted = follows(THREE, told, goal)
                for places in (FOUR, FIVE, ("a", "b", "c", "f", "zzzzzz")):
                    if sum(len(places) - len(x + z + y) for x, z, y in told) <= 6:
                        self.assertIs(follows(places, told, goal), wanted)

    def test_a_goal_that_is_told_or_turned(self):
        for goal in triples(THREE):
            self.assertIs(follows(THREE, [goal], goal), True)
            self.assertIs(follows(THREE, [goal], goal[::-1]), True)
            self.assertIs(follows(THREE, [], goal), False)
            self.assertEqual(counterweb(THREE, [], goal), all_tied(THREE))

    def test_large_worlds(self):
        told = [(("a",), ("aa",), ("b", "c", "d", "e")), (("f",), ("b", "c", "d"), ("a", "aa", "e"))]
        self.assertIs(follows(SEVEN, told, (("a",), ("aa",), ("b",))), True)
        self.assertIs(follows(SEVEN, told, (("a",), ("aa",), ("f",))), True)
        self.assertIs(follows(SEVEN, told, (("a",), (), ("b",))), False)
        web = counterweb(SEVEN, told, (("a",), (), ("b",)))
        self.assertIs(is_counterweb(web, told, (("a",), (), ("b",))), True)
        self.assertIn(web, greatest_webs(SEVEN, told))

    def test_checks(self):
        for function in (follows, counterweb):
            self.checks_world(lambda places: function(places, [BAD] * 11, BAD), 7)
            self.checks_list(lambda told: function(FOUR, told, BAD))
            self.checks_saying(lambda goal: function(FOUR, HEAVY, goal))
            self.refused(TooMany(6, 7), function, THREE, HEAVY, AB)
            self.refused(TooMany(6, 50), function, SEVEN, [AB] * 10, AB)
            self.refused(Unknown("a"), function, (), [], AB)
        self.checks_world(lambda places: consequences(places, [BAD] * 11), 4)
        self.checks_list(lambda told: consequences(FOUR, told))
        self.refused(TooMany(6, 7), consequences, THREE, HEAVY)
        self.refused(TooMany(4, 5), consequences, FIVE, HEAVY)
        self.assertEqual(consequences(THREE, [AB] * 6), consequences(THREE, [AB]))

    def test_is_counterweb(self):
        for places in (TWO, THREE):
            for told in some_told(places, 99)[::3]:
                for goal in triples(places)[::2]:
                    for web in all_webs(places):
                        wanted = web_keeps(web, told) and not web_keeps(web, [goal])
                        self.assertIs(is_counterweb(web, told, goal), wanted)
                        self.assertIs(is_counterweb(goal=goal, told=tuple(told), web=web), wanted)
        self.assertIs(is_counterweb(all_tied(SEVEN), [], (("a",), (), ("b",))), True)
        self.assertIs(is_counterweb(no_ties(SEVEN), [(("a",), (), ("b",))] * 10, (("a",), (), ("b",))), False)

    def test_checks_of_is_counterweb(self):
        for web in (no_ties(FOUR), all_tied(FOUR)):
            self.checks_list(lambda told: is_counterweb(web, told, BAD))
            self.checks_saying(lambda goal: is_counterweb(web, [AB], goal))
            self.refused(Unknown("x"), is_counterweb, web, [AB], (("x",), (), ("A",)))
        self.refused(BadPlace("A"), is_counterweb, Web(()), [], BAD)


class AlikeTest(Case):

    def test_lists_that_are_alike(self):
        alike_ones = 0
        for places in (TWO, THREE, FOUR):
            lists = lists_of(places)
            greatest = [greatest_webs(places, told) for told in lists]
            keeping = [[web_keeps(web, told) for web in all_webs(places)] for told in lists]
            for k in range(0, len(lists), 6):
                for j in range(k % 3, len(lists), 3):
                    wanted = keeping[k] == keeping[j]
                    alike_ones += wanted
                    self.assertIs(alike(places, lists[k], lists[j]), wanted)
                    self.assertEqual(greatest[k] == greatest[j], wanted)
                    self.check_unlike(places, lists[k], lists[j], greatest[k], greatest[j])
        self.assertGreater(alike_ones, 20)

    def check_unlike(self, places, first, second, of_first, of_second):
        failing = [("first", web) for web in of_first if not web_keeps(web, second)]
        failing += [("second", web) for web in of_second if not web_keeps(web, first)]
        found = unlike(places, first, second)
        self.assertEqual(found, failing[0] if failing else None)
        self.assertEqual(unlike(second=tuple(second), first=tuple(first), places=places), found)
        if found is not None:
            self.assertIs(is_unlike(places, first, second, found), True)
            self.assertIs(is_unlike(places, second, first, found), False)

    def test_order_repetition_and_turned_sayings_do_not_matter(self):
        self.assertIs(alike(THREE, [AB, PART], [PART, BA, AB]), True)
        self.assertIs(alike(second=(BA,), first=[AB], places=THREE), True)
        self.assertIs(alike(THREE, [AB], [PART]), False)
        self.assertIs(alike(THREE, [], []), True)
        self.assertIs(alike((), (), []), True)
        self.assertIs(alike(THREE, [], [AB]), False)
        self.assertEqual(unlike(THREE, [], [AB]), ("first", all_tied(THREE)))
        self.assertEqual(unlike(THREE, [AB], []), ("second", all_tied(THREE)))

    def test_the_judge(self):
        for places in (TWO, THREE):
            lists = lists_of(places)[::4]
            for first in lists:
                for second in lists:
                    for web in all_webs(places)[::2]:
                        one, two = web_keeps(web, first), web_keeps(web, second)
                        self.assertIs(is_unlike(places, first, second, ("first", web)), one and not two)
                        self.assertIs(is_unlike(places, first, second, ("second", web)), two and not one)
        web = all_tied(THREE)
        self.assertIs(is_unlike(paper=("second", web), second=(), first=[AB], places=THREE), True)
        for word in NO_PLACES + ("First", "firsts", "web", "third", "both", "\n"):
            self.assertIs(is_unlike(THREE, [AB], [], (word, web)), False)
        for other in (Web(()), all_tied(FOUR), all_tied(TWO), all_tied(("a", "b", "d")), all_tied(SEVEN)):
            self.assertIs(is_unlike(THREE, [AB], [], ("second", other)), False)
            self.assertIs(is_unlike(THREE, [], [AB], ("first", other)), False)
            self.assertIs(is_unlike(THREE, [AB], [], ("first", other)), False)
        self.assertIs(is_unlike(THREE, HEAVY, [], ("second", web)), True)

    def test_checks(self):
        web = all_tied(FOUR)
        for function in (alike, unlike):
            self.checks_world(lambda places: function(places, [BAD] * 11, [BAD] * 11), 7)
            self.checks_list(lambda told: function(FOUR, told, [BAD] * 11))
            self.checks_list(lambda told: function(FOUR, [AB] * 10, told))
            self.refused(TooMany(6, 7), function, THREE, HEAVY, HEAVY + [AB])
            self.refused(TooMany(6, 8), function, THREE, [AB], HEAVY + [AB])
            self.refused(TooMany(6, 7), function, THREE, first=HEAVY, second=[])
            self.refused(TooMany(6, 7), function, THREE, [], HEAVY)
        for paper in (("second", web), ("first", web), ("", Web(()))):
            self.checks_world(lambda places: is_unlike(places, [BAD] * 11, [BAD] * 11, paper), 7)
            self.checks_list(lambda told: is_unlike(FOUR, told, [BAD] * 11, paper))
            self.checks_list(lambda told: is_unlike(FOUR, [AB] * 10, told, paper))


class CoreTest(Case):

    def test_cores_are_those_of_the_definition(self):
        shorter = 0
        for places in (TWO, THREE, FOUR):
            for told in some_told(places, 6):
                kept = []
                for k, saying in enumerate(told):
                    if saying not in following(places, kept + told[k + 1:]):
                        kept.append(saying)
                self.same_kind(core_of(places, told), kept)
                self.same_kind(core_of(told=tuple(told), places=places), kept)
                shorter += len(kept) < len(told)
                self.assertIs(alike(places, told, kept), True)
        self.assertGreater(shorter, 20)

    def test_later_ones_stay(self):
        self.same_kind(core_of(TWO, [AB, BA]), [BA])
        self.same_kind(core_of(TWO, [AB] * 10), [AB])
        self.same_kind(core_of(THREE, [AB, PART, BA]), core_of(THREE, (PART, BA)))
        self.same_kind(core_of(THREE, []), [])
        self.same_kind(core_of((), ()), [])
        self.fresh_list(core_of, TWO, [AB, BA])
        self.fresh_list(core_of, (), [])

    def test_large_worlds(self):
        full = (("a", "aa"), ("b",), ("c", "d", "e", "f"))
        part = (("a",), ("b",), ("c", "d", "e", "f"))
        self.same_kind(core_of(SEVEN, [part, full, part, full[::-1]] + [full] * 4), [full])
        self.same_kind(core_of(SEVEN, [part, part[::-1]] * 3), [part[::-1]])

    def test_the_argument_stays(self):
        told = [AB, BA]
        core_of(TWO, told)
        alike(TWO, told, told)
        follows(TWO, told, AB)
        consequences(TWO, told)
        self.assertEqual(told, [AB, BA])

    def test_checks(self):
        self.checks_world(lambda places: core_of(places, [BAD] * 11), 7)
        self.checks_list(lambda told: core_of(FOUR, told))
        self.refused(TooMany(6, 7), core_of, THREE, HEAVY)
        self.same_kind(core_of(THREE, [AB] * 6), [AB])


if __name__ == "__main__":
    unittest.main()
