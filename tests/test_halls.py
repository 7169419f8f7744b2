"""Halls: point [28], and what point [4] says of who asks."""

import copy
import random
import unittest

from anything import Equal, Odd, no_lists, no_names, no_things, no_wholes
from refusals import Raised
from second import full_layers, full_yards, without_things
from words import Words, some_orders, some_words, yards_of_four
from noaslong.boxes import Box
from noaslong.halls import Hall
from noaslong.openness import is_open
from noaslong.rows import Rows
from noaslong.ties import Ties

METHODS = ("__init__", "yard", "hear", "askers", "heard", "is_open_to", "back", "box", "__len__")
NAMES = ("ann", "bob", "zz", "abcdefgh", "x")


def standing(hall):
    """All that a hall tells of how it stands."""
    heard = [(name, hall.heard(name), hall.is_open_to(name)) for name in hall.askers()]
    return (hall.askers(), heard, hall.box().answers(), len(hall))


def expected(words, asks):
    """How a hall stands by the document's words, where this was asked and nothing else."""
    things = list(dict.fromkeys(thing for name, thing in asks))
    said = words.answers(things)
    names = list(dict.fromkeys(name for name, thing in asks))
    heard = []
    for name in names:
        own = list(dict.fromkeys(thing for asker, thing in asks if asker == name))
        yes = [thing for thing in own if dict(said)[thing]]
        heard.append((name, [(thing, dict(said)[thing]) for thing in own], not words.fulfils(yes)))
    return (names, heard, said, len(asks))


def hall_of(yard, asks):
    hall = Hall(yard)
    for name, thing in asks:
        hall.hear(name, thing)
    return hall


class ByWords(unittest.TestCase):
    def test_many_askers(self):
        dice = random.Random(71)
        for words in some_words():
            hall, asks = Hall(words.yard), []
            self.assertEqual(standing(hall), expected(words, asks))
            for step in range(12 if words.things else 0):
                asks.append((dice.choice(NAMES), dice.choice(sorted(words.things))))
                said = dict(words.answers(list(dict.fromkeys(thing for name, thing in asks))))
                self.assertIs(hall.hear(*asks[-1]), said[asks[-1][1]], (words.yard, asks))
                self.assertEqual(standing(hall), expected(words, asks), (words.yard, asks))

    def test_with_asks_taken_back_between(self):
        dice = random.Random(72)
        for words in [words for words in some_words() if words.things]:
            hall, asks = Hall(words.yard), []
            for step in range(25):
                if asks and dice.randrange(5) < 2:
                    self.assertEqual(hall.back(), asks.pop())
                else:
                    asks.append((dice.choice(NAMES[:3]), dice.choice(sorted(words.things))))
                    hall.hear(*asks[-1])
                self.assertEqual(standing(hall), expected(words, asks), (words.yard, asks))

    def test_who_asks_plays_no_part(self):
        dice = random.Random(73)
        for yard in yards_of_four() + full_yards()[::4] + full_layers()[::3]:
            for order in some_orders(len(yard), 1, 74)[:3]:
                one, other, box = Hall(yard), Hall(yard), Box(yard)
                for thing in order:
                    truth = box.ask(thing)
                    self.assertIs(one.hear("ann", thing), truth)
                    self.assertIs(other.hear(dice.choice(NAMES), thing), truth)
                self.assertTrue(one.box() == box and other.box() == box)

    def test_while_the_box_is_open_it_is_open_to_each(self):
        dice = random.Random(75)
        for words in [words for words in some_words() if words.things]:
            hall = Hall(words.yard)
            for thing in dice.sample(sorted(words.things), len(words.things)):
                hall.hear(dice.choice(NAMES[:2]), thing)
                if is_open(hall.box()):
                    self.assertEqual({hall.is_open_to(name) for name in hall.askers()}, {True})


class Edges(unittest.TestCase):
    def test_an_ordinary_one(self):
        hall = Hall(Ties(3, [(0, 1), (1, 2), (2, 0)]))
        self.assertEqual([hall.hear("bob", 1), hall.hear("ann", 0), hall.hear("bob", 0)], [False, True, True])
        self.assertEqual([hall.hear("bob", 2), hall.hear("bob", 1)], [True, False])
        self.assertEqual((hall.askers(), len(hall)), (["bob", "ann"], 5))
        self.assertEqual(hall.heard("bob"), [(1, False), (0, True), (2, True)])
        self.assertEqual(hall.heard("ann"), [(0, True)])
        self.assertEqual((hall.is_open_to("bob"), hall.is_open_to("ann")), (False, True))
        self.assertEqual(hall.box().answers(), [(1, False), (0, True), (2, True)])

    def test_of_which_nothing_was_asked(self):
        for yard in yards_of_four() + without_things():
            hall = Hall(yard)
            self.assertEqual((hall.askers(), len(hall)), ([], 0))
            self.assertTrue(hall.box() == Box(yard) and hall.yard() == yard)

    def test_told_again_is_an_ask_more(self):
        for yard in yards_of_four():
            hall = hall_of(yard, [("ann", 2)] * 3 + [("bob", 2)])
            self.assertEqual((len(hall), len(hall.box()), hall.askers()), (4, 1, ["ann", "bob"]))
            self.assertEqual(hall.heard("ann"), hall.heard("bob"))

    def test_each_heard_thing_stands_where_it_was_asked_first(self):
        for yard in yards_of_four():
            hall = hall_of(yard, [("ann", 3), ("bob", 1), ("ann", 1), ("ann", 3), ("ann", 0), ("bob", 3)])
            self.assertEqual([thing for thing, truth in hall.heard("ann")], [3, 1, 0])
            self.assertEqual([thing for thing, truth in hall.heard("bob")], [1, 3])
            self.assertEqual(hall.box().asked(), [3, 1, 0])

    def test_names_of_one_and_of_eight_letters(self):
        for name in ("a", "z", "m", "abcdefgh", "zzzzzzzz"):
            hall = hall_of(Rows([5]), [(name, 0)])
            self.assertEqual((hall.askers(), hall.heard(name)), ([name], [(0, True)]))

    def test_each_letter_alone_is_a_name_and_no_other_sign(self):
        for number in range(32, 127):
            hall = Hall(Rows([5]))
            if "a" <= chr(number) <= "z":
                self.assertIs(hall.hear(chr(number), 0), True)
            else:
                with self.assertRaises(KeyError):
                    hall.hear(chr(number), 0)
                with self.assertRaises(KeyError):
                    hall.hear(f"a{chr(number)}b", 0)

    def test_where_nothing_has_to_be_in_it_is_open_to_none(self):
        hall = hall_of(Rows([0, 0]), [("ann", 1)])
        self.assertEqual((hall.heard("ann"), hall.is_open_to("ann")), ([(1, False)], False))

    def test_truths_are_truths(self):
        hall = hall_of(Rows([5, 5, 0]), [("ann", 0), ("bob", 1), ("ann", 2)])
        told = [hall.hear("zz", 1), hall.is_open_to("ann"), hall.is_open_to("bob"), hall.heard("ann")[0][1]]
        self.assertEqual({type(truth) for truth in told}, {bool})
        self.assertEqual({type(answer) for answer in hall.heard("ann")}, {tuple})


class Back(Raised, unittest.TestCase):
    def test_who_asked_nothing_else_is_no_asker_any_more(self):
        for yard in yards_of_four():
            hall = hall_of(yard, [("ann", 0), ("bob", 1)])
            self.assertEqual((hall.back(), hall.askers(), hall.box().asked()), (("bob", 1), ["ann"], [0]))
            self.raised("NoSuch", hall.heard, "bob", who="bob")
            self.raised("NoSuch", hall.is_open_to, "bob", who="bob")

    def test_a_thing_that_another_one_had_asked_ahead_stays_asked(self):
        for yard in yards_of_four():
            hall = hall_of(yard, [("ann", 0), ("bob", 1), ("bob", 0)])
            said = hall.box().answers()
            self.assertEqual((hall.back(), hall.box().answers()), (("bob", 0), said))
            self.assertEqual((hall.heard("bob"), hall.heard("ann")), (said[1:], said[:1]))

    def test_what_the_same_one_had_asked_ahead_stays_heard(self):
        for yard in yards_of_four():
            hall = hall_of(yard, [("ann", 0), ("ann", 1), ("ann", 0)])
            heard = hall.heard("ann")
            self.assertEqual((hall.back(), hall.heard("ann"), len(hall)), (("ann", 0), heard, 2))
            self.assertEqual((hall.back(), hall.heard("ann")), (("ann", 1), heard[:1]))

    def test_an_asker_who_comes_again_comes_last(self):
        for yard in yards_of_four():
            hall = hall_of(yard, [("ann", 0)])
            hall.back()
            hall.hear("bob", 0)
            hall.hear("ann", 1)
            self.assertEqual(hall.askers(), ["bob", "ann"])

    def test_an_answer_may_be_another_one_behind_it(self):
        hall = hall_of(Rows([5, 5]), [("ann", 0), ("bob", 1)])
        self.assertEqual(hall.heard("bob"), [(1, True)])
        self.assertEqual((hall.back(), hall.back()), (("bob", 1), ("ann", 0)))
        self.assertEqual((hall.hear("bob", 1), hall.hear("ann", 0)), (False, True))

    def test_where_there_is_none(self):
        for yard in yards_of_four() + without_things():
            hall = Hall(yard)
            self.raised("NotAsked", hall.back, who=None)
            self.assertEqual(standing(hall), ([], [], [], 0))
        hall = hall_of(Rows([5]), [("ann", 0)])
        self.assertEqual((hall.back(), type(hall_of(Rows([5]), [("ann", 0)]).back())), (("ann", 0), tuple))
        self.raised("NotAsked", hall.back, who=None)
        self.assertEqual(standing(hall), ([], [], [], 0))


class Refused(Raised, unittest.TestCase):
    def test_no_yard(self):
        rows = Rows([1])
        for wrong in no_lists() + no_wholes() + [Rows, Box(rows), Hall(rows), [rows], (rows,), "Rows([1])"]:
            self.raised("NoYard", Hall, wrong, what="yard", who=None)

    def test_no_names(self):
        for yard in yards_of_four():
            hall = hall_of(yard, [("ann", 2), ("bob", 0)])
            stood = standing(hall)
            for wrong in no_names():
                for thing in (0, 1, 4, None):
                    self.raised("NoSuch", hall.hear, wrong, thing, who=wrong)
                self.raised("NoSuch", hall.heard, wrong, who=wrong)
                self.raised("NoSuch", hall.is_open_to, wrong, who=wrong)
            self.assertEqual(standing(hall), stood)

    def test_who_is_no_asker(self):
        hall = hall_of(Rows([5, 3]), [("ann", 1)])
        for name in ("bob", "an", "anna", "a"):
            self.raised("NoSuch", hall.heard, name, who=name)
            self.raised("NoSuch", hall.is_open_to, name, who=name)
        self.raised("NoSuch", Hall(Rows([5])).heard, "ann", who="ann")
        self.assertEqual(hall.askers(), ["ann"])

    def test_no_things(self):
        for yard in yards_of_four():
            hall = hall_of(yard, [("ann", 2)])
            stood = standing(hall)
            for wrong in no_things(4):
                for name in ("ann", "bob"):
                    self.raised("NoThing", hall.hear, name, wrong, who=wrong)
            self.assertEqual(standing(hall), stood)
        for yard in without_things():
            hall = Hall(yard)
            for wrong in no_things(0) + [0]:
                self.raised("NoThing", hall.hear, "ann", wrong, who=wrong)
            self.assertEqual(hall.askers(), [])

    def test_true_is_no_thing_though_1_was_asked(self):
        hall = hall_of(Rows([5, 3]), [("ann", 1), ("ann", 0)])
        for wrong in (True, False):
            self.raised("NoThing", hall.hear, "ann", wrong, who=wrong)
        self.assertEqual(len(hall), 2)


class Alone(unittest.TestCase):
    def test_methods_stand_in_the_class_itself(self):
        for name in METHODS:
            self.assertIn(name, vars(Hall))

    def test_by_names(self):
        hall = Hall(yard=Rows([5, 5]))
        self.assertEqual((hall.hear(name="ann", thing=1), hall.hear(thing=0, name="ann")), (False, True))
        self.assertEqual((hall.heard(name="ann"), hall.is_open_to(name="ann")), ([(1, False), (0, True)], False))

    def test_the_box_is_a_copy(self):
        for yard in yards_of_four():
            hall = hall_of(yard, [("ann", 2)])
            stood, box = standing(hall), hall.box()
            self.assertIs(type(box), Box)
            self.assertIsNot(box, hall.box())
            box.play([0, 1, 3])
            self.assertEqual(standing(hall), stood)
            hall.box().back()
            self.assertEqual(standing(hall), stood)
            box = hall.box()
            hall.hear("bob", 1)
            self.assertEqual(box.asked(), [2])

    def test_told_lists_are_the_askers_own(self):
        for yard in yards_of_four():
            hall = hall_of(yard, [("ann", 2), ("bob", 0), ("ann", 1)])
            stood = copy.deepcopy(standing(hall))
            for tell in (hall.askers, lambda: hall.heard("ann"), lambda: hall.heard("bob"), hall.yard().things):
                self.assertIsNot(tell(), tell())
                tell().clear()
                tell().append(0)
            self.assertEqual(standing(hall), stood)

    def test_two_halls_know_nothing_of_one_another(self):
        for yard in yards_of_four():
            words = Words(yard)
            one, other = hall_of(yard, [("ann", 0)]), hall_of(yard, [("ann", 1), ("bob", 0)])
            one.hear("zz", 1)
            other.back()
            self.assertEqual(standing(one), expected(words, [("ann", 0), ("zz", 1)]))
            self.assertEqual(standing(other), expected(words, [("ann", 1)]))

    def test_what_is_equal_to_everything_is_no_asker(self):
        hall = hall_of(Rows([5]), [("ann", 0)])
        for wrong in (Equal(), Odd()):
            with self.assertRaises(KeyError):
                hall.heard(wrong)


if __name__ == "__main__":
    unittest.main()
