"""Tests of keepsapart.desk: points [3] to [9], [75] and [76] and the interface."""

import random
import unittest

from keepsapart.alike import consequences, core_of, counterweb, follows
from keepsapart.derive import answer
from keepsapart.desk import Desk
from keepsapart.errors import (
    BadLot, BadPlace, BadSaying, InUse, KeepError, NoChange, NotTold, Repeated, TooMany, Unknown,
)
from keepsapart.greatwebs import greatest_webs
from keepsapart.trees import is_tree
from keepsapart.webs import all_tied
from tests.helper import BAD, FIVE, NO_PLACES, TWELVE, Case, load, some_told, triples

THREE = FIVE[:3]
FOUR = FIVE[:4]
AB = (("a",), (), ("b",))
BA = AB[::-1]
PART = (("a",), ("c",), ("b",))
FULL = (("a",), ("b",), ("c", "d"))


def desk_of(places, told):
    """A desk with this world and told list, whose histories hold the deeds that made it."""
    desk = Desk(places)
    for saying in told:
        desk.tell(saying)
    return desk


def state(desk):
    """All that a desk tells of itself."""
    return (desk.places, desk.told, desk.load, desk.changes, desk.taken_back, list(desk))


class Model:
    """A desk by the definition: a list of states, and the index of the present one."""

    def __init__(self, places):
        self.states = [(places, ())]
        self.at = 0

    def go(self, places, told):
        self.states = self.states[:self.at + 1] + [(places, told)]
        self.at += 1

    def deed(self, word, value):
        """Do a deed; what it returns, or the class of the error that refuses it."""
        places, told = self.states[self.at]
        if word == "back":
            return self.move(-1, self.at > 0)
        if word == "forth":
            return self.move(1, self.at + 1 < len(self.states))
        if word == "shorten":
            if load(places, told) > 6:
                return TooMany
            core = tuple(core_of(places, told))
            if core != told:
                self.go(places, core)
            return len(told) - len(core)
        if word in ("tell", "untell"):
            return self.say(word, value, places, told)
        return self.place(word, value, places, told)

    def move(self, by, possible):
        if not possible:
            return NoChange
        self.at += by
        return None

    def say(self, word, saying, places, told):
        if not set(sum(saying, ())) <= set(places):
            return Unknown
        if word == "tell":
            if len(told) == 10:
                return TooMany
            return self.go(places, told + (saying,))
        if saying not in told:
            return NotTold
        rest = list(told)
        rest.remove(saying)
        return self.go(places, tuple(rest))

    def place(self, word, place, places, told):
        if word == "add_place":
            if place in places:
                return Repeated
            if len(places) == 5:
                return TooMany
            return self.go(tuple(sorted(places + (place,))), told)
        if place not in places:
            return Unknown
        if any(place in sum(saying, ()) for saying in told):
            return InUse
        return self.go(tuple(p for p in places if p != place), told)


class DeedsTest(Case):

    def check_state(self, desk, model):
        places, told = model.states[model.at]
        self.same_kind(state(desk), (
            places, told, load(places, told), model.at, len(model.states) - 1 - model.at, list(told),
        ))

    def check_deed(self, desk, model, word, value):
        wanted = model.deed(word, value)
        deed = getattr(desk, word)
        arguments = () if value is None else (value,)
        if isinstance(wanted, type):
            with self.assertRaises(KeepError) as caught:
                deed(*arguments)
            self.assertIs(type(caught.exception), wanted)
        else:
            self.same_kind(deed(*arguments), wanted)
        self.check_state(desk, model)

    def test_rows_of_deeds_beside_a_plain_list_of_states(self):
        draw = random.Random(75)
        sayings = triples(FOUR) + [AB, BA, PART, PART[::-1]] * 6
        words = ["tell"] * 7 + ["untell"] * 2 + ["add_place"] * 3 + ["drop_place", "shorten"]
        words += ["back", "forth"] * 3
        for row in range(60):
            places = FIVE[:row % 6]
            desk, model = Desk(places), Model(places)
            for _ in range(60):
                word = draw.choice(words)
                value = None
                if word in ("tell", "untell"):
                    value = draw.choice(sayings)
                if word in ("add_place", "drop_place"):
                    value = draw.choice(("a", "b", "c", "d", "e", "f"))
                self.check_deed(desk, model, word, value)

    def test_a_new_desk(self):
        self.same_kind(state(Desk()), ((), (), 0, 0, 0, []))
        self.same_kind(state(Desk(())), ((), (), 0, 0, 0, []))
        self.same_kind(state(Desk(places=FIVE)), (FIVE, (), 0, 0, 0, []))
        self.checks_world(Desk, 5)

    def test_deeds_return_nothing_and_take_their_arguments_by_name(self):
        desk = Desk(("a",))
        self.assertIsNone(desk.add_place(place="c"))
        self.assertIsNone(desk.add_place("b"))
        self.assertIsNone(desk.tell(saying=AB))
        self.assertIsNone(desk.tell(AB))
        self.assertIsNone(desk.untell(saying=AB))
        self.assertIsNone(desk.back())
        self.assertIsNone(desk.forth())
        self.assertIsNone(desk.drop_place(place="c"))
        self.same_kind(state(desk), (("a", "b"), (AB,), 0, 6, 0, [AB]))

    def test_places_are_added_and_dropped(self):
        desk = Desk(FOUR)
        self.checks_new_place(desk.add_place)
        self.checks_place(desk.drop_place)
        desk.add_place("aa")
        self.same_kind(desk.places, ("a", "aa", "b", "c", "d"))
        self.refused(TooMany(5, 6), desk.add_place, "x")
        self.refused(Repeated("aa"), desk.add_place, "aa")
        for text in NO_PLACES:
            self.refused(BadPlace(text), desk.add_place, text)
        for saying in (PART, AB, PART):
            desk.tell(saying)
        self.refused(InUse(PART), desk.drop_place, "a")
        self.refused(InUse(PART), desk.drop_place, "c")
        desk.untell(PART)
        self.refused(InUse(AB), desk.drop_place, "b")
        self.refused(InUse(PART), desk.drop_place, "c")
        desk.drop_place("d")
        desk.drop_place("aa")
        self.same_kind(desk.places, THREE)

    def test_untelling_takes_the_first_equal_saying(self):
        desk = desk_of(THREE, [AB, PART, AB, BA, PART])
        self.refused(NotTold(PART[::-1]), desk.untell, PART[::-1])
        desk.untell(AB)
        self.same_kind(desk.told, (PART, AB, BA, PART))
        desk.untell(PART)
        self.same_kind(desk.told, (AB, BA, PART))
        self.checks_saying(desk_of(FOUR, [AB]).untell)
        self.checks_saying(desk_of(FOUR, [AB] * 10).tell)

    def test_ten_sayings_may_be_told(self):
        desk = desk_of(THREE, [AB] * 10)
        self.refused(TooMany(10, 11), desk.tell, AB)
        self.refused(TooMany(10, 11), desk.tell, PART)
        self.refused(BadSaying(((), (), ())), desk.tell, ((), (), ()))
        self.same_kind(state(desk), (THREE, (AB,) * 10, 10, 10, 0, [AB] * 10))

    def test_membership(self):
        desk = desk_of(THREE, [AB, PART])
        for saying in triples(THREE):
            self.assertIs(saying in desk, saying in (AB, PART))
        for raw in (BAD, ((), (), ()), (("b", "a"), ("A",), ("x",)), (TWELVE, (), ()), (("zzzzzzz",), ("",), ())):
            self.assertIs(raw in desk, False)

    def test_shortening(self):
        for places in (THREE, FOUR, FIVE):
            for told in some_told(places, 6)[::2]:
                desk = desk_of(places, told)
                before = state(desk)
                core = tuple(core_of(places, told))
                self.same_kind(desk.shorten(), len(told) - len(core))
                if core == tuple(told):
                    self.assertEqual(state(desk), before)
                else:
                    self.same_kind((desk.told, desk.changes, desk.taken_back), (core, len(told) + 1, 0))
                    self.same_kind(desk.shorten(), 0)
                    desk.back()
                    self.same_kind(desk.told, tuple(told))

    def test_a_shorten_that_drops_nothing_one_or_several(self):
        desk = desk_of(THREE, [AB, BA, PART, AB])
        desk.tell(PART)
        desk.back()
        self.same_kind(desk.taken_back, 1)
        self.same_kind(desk.shorten(), 3)
        self.same_kind(state(desk), (THREE, (AB,), 1, 5, 0, [AB]))
        desk.tell(PART)
        desk.untell(PART)
        desk.back()
        desk.back()
        self.same_kind((desk.shorten(), desk.taken_back), (0, 2))
        desk.forth()
        self.same_kind(desk.told, (AB, PART))
        self.same_kind(Desk().shorten(), 0)
        self.refused(TooMany(6, 7), desk_of(THREE, [AB] * 7).shorten)
        self.same_kind(desk_of(THREE, [AB] * 6 + [PART] * 4).shorten(), 9)

    def test_histories(self):
        desk = Desk()
        self.refused(NoChange(), desk.back)
        self.refused(NoChange(), desk.forth)
        desk.add_place("a")
        desk.add_place("b")
        desk.tell(AB)
        self.refused(NoChange(), desk.forth)
        for changes in (2, 1, 0):
            desk.back()
            self.same_kind((desk.changes, desk.taken_back), (changes, 3 - changes))
        self.refused(NoChange(), desk.back)
        self.same_kind((desk.places, desk.told), ((), ()))
        desk.forth()
        desk.forth()
        self.same_kind((desk.places, desk.told, desk.changes, desk.taken_back), (("a", "b"), (), 2, 1))
        desk.add_place("c")
        self.refused(NoChange(), desk.forth)
        self.same_kind((desk.places, desk.changes, desk.taken_back), (THREE, 3, 0))

    def test_refused_deeds_and_questions_leave_everything(self):
        desk = desk_of(FOUR, [FULL, AB])
        desk.tell(PART)
        desk.back()
        before = state(desk)
        for call, error in (
            (lambda: desk.add_place("a"), Repeated("a")), (lambda: desk.add_place("A"), BadPlace("A")),
            (lambda: desk.drop_place("d"), InUse(FULL)), (lambda: desk.drop_place("x"), Unknown("x")),
            (lambda: desk.tell(BAD), BadPlace("A")), (lambda: desk.tell((("x",), (), ("a",))), Unknown("x")),
            (lambda: desk.untell(BA), NotTold(BA)), (lambda: desk.untell((("b", "a"), (), ())), BadLot(("b", "a"))),
            (lambda: desk.goal_follows(BAD), BadPlace("A")), (lambda: desk.what_if(AB, extra=[BAD]), BadPlace("A")),
        ):
            self.refused(error, call)
            self.assertEqual(state(desk), before)
        for call in (
            desk.greatest, desk.twin, desk.consequence_book, lambda: desk.goal_follows(AB),
            lambda: desk.goal_answer(BA),
            lambda: desk.goal_counterweb(PART), lambda: desk.what_if(PART, extra=[PART]), lambda: AB in desk,
            lambda: list(desk), lambda: desk.load,
        ):
            call()
            self.assertEqual(state(desk), before)
        desk.forth()
        self.refused(NoChange(), desk.forth)
        self.same_kind(desk.told, (FULL, AB, PART))

    def test_twins(self):
        desk = desk_of(THREE, [AB, PART])
        desk.back()
        twin = desk.twin()
        self.assertIs(type(twin), Desk)
        self.same_kind(state(twin), (THREE, (AB,), 1, 0, 0, [AB]))
        self.refused(NoChange(), twin.back)
        self.refused(NoChange(), twin.forth)
        twin.tell(BA)
        twin.add_place("d")
        self.same_kind(state(desk), (THREE, (AB,), 1, 1, 1, [AB]))
        desk.forth()
        self.same_kind(state(twin), (FOUR, (AB, BA), 4, 2, 0, [AB, BA]))
        twin.back()
        twin.back()
        self.same_kind(state(twin), (THREE, (AB,), 1, 0, 2, [AB]))

    def test_a_returned_list_is_new(self):
        self.fresh_list(desk_of(THREE, [AB]).greatest)
        desk = desk_of(THREE, [AB])
        self.assertEqual(list(desk), [AB])
        self.assertEqual([saying for saying in desk], [AB])
        self.assertEqual(list(Desk()), [])


class QuestionsTest(Case):

    def test_answers_are_those_of_the_functions(self):
        for places in ((), ("a",), THREE, FOUR, FIVE):
            for told in some_told(places, 6)[::9] if len(places) > 1 else [[]]:
                desk = desk_of(places, told)
                self.assertEqual(desk.greatest(), greatest_webs(places, told))
                self.same_kind(desk.load, load(places, told))
                if len(places) < 5:
                    self.assertEqual(desk.consequence_book(), consequences(places, told))
                for goal in triples(places)[::31]:
                    self.assertIs(desk.goal_follows(goal), follows(places, told, goal))
                    self.assertEqual(desk.goal_counterweb(goal=goal), counterweb(places, told, goal))
                    self.assertIs(desk.what_if(goal), follows(places, told, goal))
                    if load(places, told) <= 4:
                        self.check_answer(desk, goal)

    def check_answer(self, desk, goal):
        word, witness = desk.goal_answer(goal=goal)
        if word == "tree":
            self.assertIs(follows(desk.places, desk.told, goal), True)
            self.assertIs(is_tree(desk.places, desk.told, goal, witness), True)
        else:
            self.assertEqual((word, witness), answer(desk.places, desk.told, goal))

    def test_desks_with_other_histories_give_equal_answers(self):
        first = desk_of(FOUR, [PART, AB])
        second = Desk(("b", "d"))
        for place in ("c", "e", "a"):
            second.add_place(place)
        for saying in (PART, (("c",), ("a",), ("b",)), AB):
            second.tell(saying)
        second.untell((("c",), ("a",), ("b",)))
        second.drop_place("e")
        for goal in triples(FOUR)[::7]:
            self.assertEqual(first.goal_answer(goal), second.goal_answer(goal))
            self.assertEqual(first.goal_counterweb(goal), second.goal_counterweb(goal))
            self.assertEqual(first.goal_follows(goal), second.goal_follows(goal))
            self.assertEqual(first.what_if(goal, extra=[BA]), second.what_if(goal, extra=(BA,)))
        self.assertEqual(first.greatest(), second.greatest())
        self.assertEqual(first.consequence_book(), second.consequence_book())
        self.assertEqual(first.load, second.load)
        self.assertNotEqual(first.changes, second.changes)

    def test_what_if(self):
        for told in some_told(FOUR, 3)[::11]:
            for extra in some_told(FOUR, 3)[::13]:
                for goal in triples(FOUR)[::17]:
                    wanted = follows(FOUR, told + extra, goal) if len(told + extra) <= 10 else None
                    desk = desk_of(FOUR, told)
                    if wanted is None:
                        self.refused(TooMany(10, len(told + extra)), desk.what_if, goal, extra=extra)
                    else:
                        self.assertIs(desk.what_if(goal, extra=extra), wanted)
                        self.assertIs(desk.what_if(goal=goal, extra=tuple(extra)), wanted)
                    self.assertEqual(desk.told, tuple(told))
        extra = [AB, BA]
        self.assertIs(Desk(THREE).what_if(BA, extra=extra), True)
        self.assertEqual(extra, [AB, BA])
        self.assertEqual(Desk(THREE).greatest(), [all_tied(THREE)])

    def test_checks_of_what_if(self):
        desk = desk_of(FOUR, [FULL] * 8)
        self.checks_saying(lambda goal: desk.what_if(goal, extra=[BAD] * 11))
        self.checks_list(lambda extra: desk.what_if(AB, extra=extra))
        self.refused(TooMany(10, 11), desk.what_if, AB, extra=[AB] * 3)
        self.refused(TooMany(10, 18), desk.what_if, AB, extra=[AB] * 10)
        self.refused(BadPlace("A"), desk.what_if, AB, extra=[FULL] * 9 + [BAD])
        self.refused(TooMany(6, 7), desk_of(THREE, [AB] * 5).what_if, AB, extra=[AB] * 2)
        self.refused(TooMany(6, 7), desk_of(THREE, [AB] * 7).what_if, AB)
        self.assertIs(desk_of(THREE, [AB] * 5).what_if(AB, extra=[AB]), True)
        self.refused(Unknown("a"), Desk().what_if, AB)

    def test_goals_are_checked(self):
        for desk in (Desk(FOUR), desk_of(FOUR, [AB] * 10)):
            for question in (desk.goal_follows, desk.goal_counterweb, desk.goal_answer):
                self.checks_saying(question)

    def test_loads_beyond_the_bounds(self):
        desk = desk_of(THREE, [AB] * 4)
        self.assertEqual(desk.goal_answer(BA)[0], "tree")
        desk.tell(AB)
        for goal in (BA, PART, (("a",), (), ("c",))):
            self.refused(TooMany(4, 5), desk.goal_answer, goal)
            self.assertIs(desk.goal_follows(goal), goal != (("a",), (), ("c",)))
        desk.add_place("d")
        self.same_kind(desk.load, 10)
        for call in (
            desk.greatest, desk.shorten, desk.consequence_book, lambda: desk.goal_follows(AB),
            lambda: desk.goal_counterweb(AB), lambda: desk.what_if(AB),
        ):
            self.refused(TooMany(6, 10), call)
        self.refused(TooMany(4, 10), desk.goal_answer, AB)
        desk.back()
        self.same_kind(desk.shorten(), 4)
        self.assertEqual(desk.goal_answer(BA)[0], "tree")

    def test_no_consequence_book_over_five_places(self):
        self.refused(TooMany(4, 5), Desk(FIVE).consequence_book)
        self.refused(TooMany(4, 5), desk_of(FIVE, [AB] * 10).consequence_book)
        self.assertEqual(Desk(FIVE).greatest(), [all_tied(FIVE)])


if __name__ == "__main__":
    unittest.main()
