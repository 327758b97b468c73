"""Tests of keepsapart.askweb: points [3] to [9], [65] and [66] and the interface."""

import unittest
from itertools import combinations

from keepsapart.askweb import Asker, agreeing_webs, find_web, tell_apart, undecided
from keepsapart.errors import OtherPlaces, TooMany, Unknown
from keepsapart.webs import Web, all_tied, all_webs, no_ties
from tests.helper import BAD, FIVE, SEVEN, Case, kept_by, triples, web_keeps, webs_of_many, webs_up_to

THREE = FIVE[:3]
FOUR = FIVE[:4]
LINE = Web(FOUR, [("a", "b"), ("b", "c"), ("c", "d")])
KEPT = (("a",), ("b",), ("c",))
CROSSED = (("a",), ("d",), ("c",))
EMPTY = Web(())


def pair_questions(places):
    """The pair sayings of all pairs, in ascending order of the pairs."""
    pairs = combinations(places, 2)
    return [((a,), tuple(place for place in places if place not in (a, b)), (b,)) for a, b in pairs]


class AskerTest(Case):

    def test_answers_tell_whether_the_web_keeps_the_saying(self):
        for web in webs_up_to(3) + webs_up_to(4)[::7]:
            asker = Asker(web)
            wanted = []
            for saying in triples(web.places):
                answer = asker(saying)
                self.assertIs(answer, saying in kept_by(web.places, web.ties))
                wanted.append((saying, answer))
                self.same_kind(asker.log, tuple(wanted))
                self.same_kind(asker.asked, len(wanted))
            self.same_kind(asker.places, web.places)

    def test_repeated_questions_are_logged_again(self):
        asker = Asker(web=LINE)
        for _ in range(3):
            self.assertIs(asker(KEPT), True)
            self.assertIs(asker(saying=CROSSED), False)
        self.same_kind(asker.log, ((KEPT, True), (CROSSED, False)) * 3)
        self.same_kind(asker.asked, 6)

    def test_a_refused_question_is_not_logged(self):
        asker = Asker(LINE)
        asker(KEPT)
        self.checks_saying(asker)
        self.checks_saying(lambda saying: asker(saying=saying))
        self.same_kind(asker.log, ((KEPT, True),))
        self.same_kind(asker.asked, 1)
        self.refused(Unknown("a"), Asker(EMPTY), KEPT)

    def test_two_askers_of_one_web_have_logs_of_their_own(self):
        first, second = Asker(LINE), Asker(LINE)
        first(KEPT)
        self.same_kind((first.asked, second.asked), (1, 0))
        second(CROSSED)
        second(CROSSED)
        self.same_kind(first.log, ((KEPT, True),))
        self.same_kind(second.log, ((CROSSED, False), (CROSSED, False)))

    def test_a_log_that_was_read_does_not_change(self):
        asker = Asker(LINE)
        before = asker.log
        asker(KEPT)
        self.same_kind(before, ())
        self.same_kind(asker.log, ((KEPT, True),))

    def test_a_new_asker(self):
        for web in (EMPTY, LINE, all_tied(SEVEN)):
            asker = Asker(web)
            self.same_kind((asker.places, asker.asked, asker.log), (web.places, 0, ()))

    def test_many_questions(self):
        asker = Asker(all_tied(SEVEN))
        for _ in range(2000):
            asker(KEPT)
        self.same_kind(asker.asked, 2000)


class FindTest(Case):

    def test_each_web_is_found_by_one_question_for_each_pair(self):
        for web in webs_up_to(4) + webs_of_many(SEVEN, 40):
            asker = Asker(web)
            self.assertEqual(find_web(asker), web)
            questions = pair_questions(web.places)
            self.assertEqual([saying for saying, _ in asker.log], questions)
            self.assertEqual([answer for _, answer in asker.log], [web_keeps_pair(web, saying) for saying in questions])
            self.assertEqual(asker.asked, len(web.places) * (len(web.places) - 1) // 2)

    def test_what_was_asked_before_stays_and_is_asked_again(self):
        asker = Asker(LINE)
        before = pair_questions(FOUR)[2:4] + [KEPT]
        for saying in before:
            asker(saying)
        self.assertEqual(find_web(asker), LINE)
        self.assertEqual(find_web(asker=asker), LINE)
        self.assertEqual([saying for saying, _ in asker.log], before + pair_questions(FOUR) * 2)
        asker = Asker(EMPTY)
        self.assertEqual(find_web(asker), EMPTY)
        self.same_kind(asker.log, ())


def web_keeps_pair(web, saying):
    """True if a web keeps a pair saying, which is so if the pair is not tied."""
    return (saying[0][0], saying[2][0]) not in web.ties


class UndecidedTest(Case):

    def test_the_first_pair_that_was_not_asked(self):
        for places in (THREE, FOUR):
            questions = pair_questions(places)
            pairs = list(combinations(places, 2))
            for number in range(2 ** len(pairs)):
                asked = [saying if k % 2 else saying[::-1] for k, saying in enumerate(questions) if number >> k & 1]
                asked = asked[::-1] + triples(places)[:3]
                missing = [pair for pair, saying in zip(pairs, questions)
                           if saying not in asked and saying[::-1] not in asked]
                found = undecided(places, asked)
                self.assertEqual(undecided(asked=tuple(asked), places=places), found)
                if not missing:
                    self.assertIsNone(found)
                else:
                    self.assertEqual(found, (all_tied(places), all_tied(places).without_tie(*missing[0])))
                    self.assertIs(type(found), tuple)

    def test_the_two_webs_answer_no_to_whatever_was_asked(self):
        for step in range(1, 20):
            asked = triples(FOUR)[::step][:30]
            found = undecided(FOUR, asked)
            for saying in asked if found else []:
                self.assertEqual([web_keeps(web, [saying]) for web in found], [False, False])

    def test_small_worlds_and_bounds(self):
        self.assertIsNone(undecided((), []))
        self.assertIsNone(undecided(("a",), ()))
        self.assertEqual(undecided(("a", "b"), []), (all_tied(("a", "b")), no_ties(("a", "b"))))
        self.assertIsNone(undecided(SEVEN, pair_questions(SEVEN)))
        self.assertIsNone(undecided(SEVEN, [saying[::-1] for saying in pair_questions(SEVEN)] + [KEPT] * 9))
        self.assertEqual(undecided(SEVEN, [KEPT] * 30), (all_tied(SEVEN), all_tied(SEVEN).without_tie("a", "aa")))

    def test_checks(self):
        self.checks_world(lambda places: undecided(places, [BAD] * 31), 7)
        self.checks_list(lambda asked: undecided(FOUR, asked), most=30)
        self.refused(Unknown("a"), undecided, (), [KEPT])

    def test_arguments_stay_as_they_are(self):
        asked = [KEPT, CROSSED]
        undecided(FOUR, asked)
        self.assertEqual(asked, [KEPT, CROSSED])


class AgreeingTest(Case):

    def test_webs_that_agree_with_a_log(self):
        for places in (THREE, FOUR):
            sayings = triples(places)
            for k in range(40):
                chosen = [sayings[k * j % len(sayings)] for j in (1, 5, 7, 11)[:k % 5]]
                log = [(saying, (k >> at) % 2 == 1) for at, saying in enumerate(chosen)]
                wanted = [web for web in all_webs(places)
                          if all(web_keeps(web, [saying]) is answer for saying, answer in log)]
                self.assertEqual(agreeing_webs(places, log), wanted)
                self.assertEqual(agreeing_webs(log=tuple(log), places=places), wanted)

    def test_the_log_of_an_asker(self):
        for web in webs_up_to(4)[::3]:
            asker = Asker(web)
            find_web(asker)
            self.assertEqual(agreeing_webs(web.places, asker.log), [web])
            self.assertIn(web, agreeing_webs(web.places, asker.log[1:]))

    def test_a_log_that_no_web_agrees_with(self):
        self.same_kind(agreeing_webs(FOUR, [(KEPT, True), (KEPT, False)]), [])
        self.same_kind(agreeing_webs(FOUR, [((("a",), (), ("b",)), True), ((("b",), ("c",), ("a",)), False)]), [])
        self.assertEqual(agreeing_webs((), []), [EMPTY])
        self.assertEqual(agreeing_webs(FOUR, ()), all_webs(FOUR))
        self.assertEqual(agreeing_webs(FOUR, [(CROSSED, False)] * 30), agreeing_webs(FOUR, [(CROSSED, False)]))
        self.fresh_list(agreeing_webs, THREE, [(KEPT, True)])

    def test_checks(self):
        self.checks_world(lambda places: agreeing_webs(places, [(BAD, True)] * 31), 4)
        for answer in (True, False):
            self.checks_list(lambda sayings: agreeing_webs(FOUR, [(saying, answer) for saying in sayings]), most=30)
            self.checks_list(lambda sayings: agreeing_webs(FOUR, tuple((lots, answer) for lots in sayings)), most=30)
        self.refused(TooMany(30, 31), agreeing_webs, FOUR, [(KEPT, True)] * 31)


class TellApartTest(Case):

    def test_the_pair_saying_of_the_least_pair_that_differs(self):
        webs = webs_up_to(4)[-64::3]
        for first in webs:
            for second in webs:
                pairs = [pair for pair in combinations(FOUR, 2) if (pair in first.ties) != (pair in second.ties)]
                found = tell_apart(first, second)
                if pairs:
                    a, b = pairs[0]
                    self.same_kind(found, ((a,), tuple(p for p in FOUR if p not in (a, b)), (b,)))
                    self.assertNotEqual(Asker(first)(found), Asker(second)(found))
                else:
                    self.assertIsNone(found)
                    self.assertEqual(first, second)

    def test_examples_and_checks(self):
        self.same_kind(tell_apart(second=no_ties(FOUR), first=LINE), (("a",), ("c", "d"), ("b",)))
        self.assertIsNone(tell_apart(EMPTY, EMPTY))
        self.assertIsNone(tell_apart(all_tied(SEVEN), all_tied(SEVEN)))
        self.refused(OtherPlaces(FOUR, THREE), tell_apart, LINE, no_ties(THREE))
        self.refused(OtherPlaces((), SEVEN), tell_apart, EMPTY, no_ties(SEVEN))


if __name__ == "__main__":
    unittest.main()
