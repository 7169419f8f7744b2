"""Boxes: points [17] and [18], and what point [4] says of their answers."""

import copy
import itertools
import random
import unittest

from anything import Equal, Odd, no_lists, no_things, no_wholes
from refusals import Raised
from second import full_yards, second_worth, without_things
from words import Pairs, Words, one_of_each, some_orders, some_words
from noaslong.boxes import Asked, Box
from noaslong.lots import Lots
from noaslong.rows import Rows
from noaslong.seats import Seats
from noaslong.ties import Ties
from noaslong.yards import Yard

METHODS = ("__init__", "yard", "ask", "play", "told", "yes", "no", "unasked", "asked", "answers", "back", "copied",
           "__eq__", "__len__")


class Willing(Asked):
    """Something else of which things are asked: it says yes to all."""

    def says(self, thing):
        return True


def standing(box):
    """All that a box tells of how it stands."""
    told = [box.told(thing) for thing in box.yard().things()]
    return (box.yes(), box.no(), box.unasked(), box.asked(), box.answers(), told, len(box))


def expected_standing(words, order):
    """How a box stands by the document's words, asked in this order."""
    said = words.answers(order)
    known = dict(said)
    yes, no = [sorted(thing for thing in known if known[thing] is truth) for truth in (True, False)]
    unasked = sorted(words.things - set(order))
    told = [known.get(thing) for thing in sorted(words.things)]
    return (yes, no, unasked, list(order), said, told, len(order))


def boxes():
    """A box of a yard of each sort, of which some things were asked."""
    asked = [Box(yard) for yard in one_of_each()]
    for box in asked:
        box.play([2, 0])
    return asked


class ByWords(unittest.TestCase):
    def test_each_ask_in_many_orders(self):
        for words in some_words():
            for order in some_orders(len(words.things), 6, 51):
                box = Box(words.yard)
                for at, thing in enumerate(order):
                    self.assertEqual(standing(box), expected_standing(words, order[:at]), (words.yard, order))
                    self.assertIs(box.ask(thing), words.answers(order[:at + 1])[-1][1], (words.yard, order))
                self.assertEqual(standing(box), expected_standing(words, order), (words.yard, order))

    def test_play(self):
        for words in some_words():
            for order in some_orders(len(words.things), 4, 52):
                box = Box(words.yard)
                self.assertEqual(box.play(order), [truth for thing, truth in words.answers(order)])
                self.assertEqual(standing(box), expected_standing(words, order))

    def test_with_asks_taken_back_between(self):
        dice = random.Random(53)
        for words in some_words():
            box, order = Box(words.yard), []
            for step in range(30):
                if order and dice.randrange(3) == 0:
                    self.assertEqual(box.back(), order.pop())
                elif words.things:
                    thing = dice.choice(sorted(words.things))
                    order += [thing] if thing not in order else []
                    self.assertIs(box.ask(thing), dict(words.answers(order))[thing])
                self.assertEqual(standing(box), expected_standing(words, order))
                self.assertTrue(words.fulfils(box.yes() + box.unasked()))

    def test_of_24_things(self):
        dice = random.Random(54)
        for yard in [yard for yard in full_yards() if not isinstance(yard, Seats) or yard.seats() < 12]:
            box, order = Box(yard), dice.sample(range(24), 24)
            for thing in order:
                others = sorted({*box.yes(), *box.unasked()} - {thing})
                expected = second_worth(yard, others) != second_worth(yard, range(24))
                self.assertIs(box.ask(thing), expected)
            self.assertEqual((box.asked(), len(box), box.unasked()), (order, 24, []))
            self.assertEqual(len(box.yes()), second_worth(yard, range(24)))


class Whole(unittest.TestCase):
    """Point [4]: all asked, a box has said yes to the least heap that was asked last."""

    def test_the_one_asked_last(self):
        for words in some_words():
            least = words.all_least()
            for order in some_orders(len(words.things), 6, 55):
                box = Box(words.yard)
                box.play(order)
                times = {thing: at for at, thing in enumerate(order)}
                latest = max(least, key=lambda heap: sorted([times[thing] for thing in heap], reverse=True))
                self.assertEqual(box.yes(), latest, (words.yard, order))

    def test_each_least_heap_comes_of_some_order(self):
        for words in some_words():
            if len(words.things) <= 4:
                told = []
                for order in itertools.permutations(sorted(words.things)):
                    box = Box(words.yard)
                    box.play(list(order))
                    told.append(box.yes())
                self.assertEqual({tuple(heap) for heap in told}, {tuple(heap) for heap in words.all_least()})

    def test_just_a_least_heap_once_all_that_is_not_idle_was_asked(self):
        for words in some_words():
            for order in some_orders(len(words.things), 4, 56):
                box = Box(words.yard)
                for thing in order:
                    box.ask(thing)
                    some_left = any(not words.is_idle(other) for other in box.unasked())
                    self.assertIs(words.is_least(box.yes()), not some_left, (words.yard, order))


class Edges(unittest.TestCase):
    def test_ordinary_ones(self):
        box = Box(Ties(3, [(0, 1), (1, 2), (2, 0)]))
        self.assertEqual((box.ask(1), box.ask(0), box.ask(2)), (False, True, True))
        self.assertEqual((box.yes(), box.no(), box.asked()), ([0, 2], [1], [1, 0, 2]))
        self.assertEqual(box.answers(), [(1, False), (0, True), (2, True)])
        self.assertEqual(Box(Rows([5, 3, 6])).play([2, 1, 0]), [False, True, True])
        self.assertEqual(Box(Lots([1, 2], [0, 0, 1, 1, 1])).play([0, 2, 3, 4, 1]), [False, False, True, True, True])
        self.assertEqual(Box(Seats(2, [[0], [1], [0, 1]])).play([0, 1, 2]), [False, True, True])

    def test_idle_and_alike_things(self):
        for yard in one_of_each():
            self.assertEqual(Box(yard).play([3, 0, 1, 2]), [False, False, True, True])
            self.assertEqual(Box(yard).play([2, 1, 0, 3]), [True, False, True, False])

    def test_at_first_all_are_unasked(self):
        for yard in one_of_each():
            self.assertEqual(standing(Box(yard)), ([], [], [0, 1, 2, 3], [], [], [None] * 4, 0))

    def test_of_a_yard_without_things(self):
        for yard in without_things():
            box = Box(yard)
            self.assertEqual((box.play([]), standing(box)), ([], ([], [], [], [], [], [], 0)))
            self.assertTrue(box.copied() == box)

    def test_asked_again(self):
        for box in boxes():
            before, stood = box.answers(), standing(box)
            for thing, truth in before + before:
                self.assertIs(box.ask(thing), truth)
                self.assertEqual(standing(box), stood)
            self.assertEqual(box.play([2, 0, 0, 2]), [dict(before)[thing] for thing in (2, 0, 0, 2)])
            self.assertEqual(standing(box), stood)

    def test_asked_twice_in_one_play(self):
        for yard in one_of_each():
            box = Box(yard)
            self.assertEqual(box.play([0, 0, 1, 0, 1, 3]), [False, False, True, False, True, False])
            self.assertEqual((box.asked(), len(box)), ([0, 1, 3], 3))

    def test_truths_are_truths(self):
        for yard in one_of_each() + [Pairs()]:
            box = Box(yard)
            told = [box.ask(0), *box.play(yard.things()), box.told(0), *[truth for thing, truth in box.answers()]]
            self.assertEqual({type(truth) for truth in told}, {bool})
            self.assertEqual({type(answer) for answer in box.answers()}, {tuple})

    def test_yard(self):
        for yard in one_of_each() + without_things():
            self.assertTrue(Box(yard).yard() == yard)


class Back(Raised, unittest.TestCase):
    def test_all_is_as_it_was(self):
        for yard in one_of_each():
            for order in itertools.permutations(range(4)):
                box, stood = Box(yard), []
                for thing in order:
                    stood.append((standing(box), box.copied()))
                    box.ask(thing)
                for thing in order[::-1]:
                    self.assertEqual(box.back(), thing)
                    before, copied = stood.pop()
                    self.assertEqual(standing(box), before)
                    self.assertTrue(box == copied)

    def test_an_answer_may_be_another_one_behind_it(self):
        for yard in one_of_each():
            box = Box(yard)
            self.assertEqual(box.play([0, 1]), [False, True])
            self.assertEqual((box.back(), box.back(), box.told(0), box.told(1)), (1, 0, None, None))
            self.assertEqual(box.play([1, 0]), [False, True])

    def test_asked_again_is_no_ask_more(self):
        for box in boxes():
            box.ask(2)
            self.assertEqual((box.back(), box.asked()), (0, [2]))
            self.assertEqual((box.back(), box.asked()), (2, []))

    def test_where_there_is_none(self):
        for yard in one_of_each() + without_things():
            box = Box(yard)
            self.raised("NotAsked", box.back, who=None)
            self.assertEqual(standing(box), standing(Box(yard)))
        for box in boxes():
            box.back()
            box.back()
            self.raised("NotAsked", box.back, who=None)
            self.assertTrue(box == Box(box.yard()))


class Refused(Raised, unittest.TestCase):
    def test_no_yard(self):
        wrongs = no_lists() + no_wholes() + [Ties, Yard, Box, Box(Rows([1])), [Rows([1])], (Rows([1]),), "Rows([1])"]
        for wrong in wrongs:
            self.raised("NoYard", Box, wrong, what="yard", who=None)

    def test_no_thing(self):
        for box in boxes():
            stood = standing(box)
            for wrong in no_things(4):
                for call in (box.ask, box.told):
                    self.raised("NoThing", call, wrong, who=wrong)
                    self.assertEqual(standing(box), stood)

    def test_no_thing_of_a_yard_of_none_or_24(self):
        for yard in without_things():
            for wrong in no_things(0) + [0, 1]:
                self.raised("NoThing", Box(yard).ask, wrong, who=wrong)
                self.raised("NoThing", Box(yard).told, wrong, who=wrong)
                self.raised("NoThing", Box(yard).play, [wrong], who=wrong)
        for yard in full_yards()[::5]:
            for wrong in no_things(24):
                self.raised("NoThing", Box(yard).ask, wrong, who=wrong)

    def test_play_is_refused_ahead_of_any_ask(self):
        for box in boxes():
            stood = standing(box)
            for wrong in no_things(4):
                for things in ([wrong], [1, wrong], [1, 3, wrong], [wrong, 1], [2, 2, wrong, 3], [1, wrong, None, 9]):
                    self.raised("NoThing", box.play, things, who=wrong)
                    self.assertEqual(standing(box), stood)

    def test_true_and_false_are_no_things_though_0_and_1_were_asked(self):
        for box in boxes():
            box.play([0, 1])
            for wrong in (True, False):
                for call in (box.ask, box.told, lambda thing: box.play([0, thing])):
                    self.raised("NoThing", call, wrong, who=wrong)


class Copies(unittest.TestCase):
    def test_a_copy_stands_alike(self):
        for box in boxes():
            copied = box.copied()
            self.assertIs(type(copied), Box)
            self.assertIsNot(copied, box)
            self.assertEqual(standing(copied), standing(box))
            self.assertTrue(copied == box and box == copied)

    def test_a_copy_goes_its_own_way(self):
        for box in boxes():
            stood = standing(box)
            copied = box.copied()
            copied.ask(3)
            self.assertEqual((standing(box), copied.asked()), (stood, [2, 0, 3]))
            self.assertFalse(copied == box)
            copied.back()
            copied.back()
            copied.ask(1)
            self.assertEqual((standing(box), copied.asked()), (stood, [2, 1]))
            copied = box.copied()
            box.back()
            box.back()
            self.assertEqual(standing(copied), stood)

    def test_a_copy_goes_on_as_the_box_would(self):
        for words in some_words()[::3]:
            for order in some_orders(len(words.things), 3, 57):
                for end in range(len(order) + 1):
                    box = Box(words.yard)
                    box.play(order[:end])
                    copied = box.copied()
                    self.assertEqual(copied.play(order[end:]), box.play(order[end:]))
                    self.assertEqual(standing(copied), standing(box))


class Equals(unittest.TestCase):
    def test_where_yards_and_asks_are(self):
        for yard, again in zip(one_of_each() + without_things(), one_of_each() + without_things()):
            self.assertIs(Box(yard) == Box(again), True)
            self.assertIs(Box(yard) != Box(again), False)
        for box, again in zip(boxes(), boxes()):
            self.assertIs(box == again, True)
            box.ask(2)
            self.assertIs(box == again, True)
            box.ask(1)
            self.assertIs(box == again, False)
            self.assertIs(box != again, True)
            box.back()
            self.assertIs(box == again, True)

    def test_the_order_of_the_asks_counts(self):
        for yard in one_of_each():
            # Both say no to 0 and to 3, whichever is asked first.
            one, other = Box(yard), Box(yard)
            self.assertEqual((one.play([0, 3]), other.play([3, 0])), ([False, False], [False, False]))
            self.assertIs(one == other, False)
            self.assertIs(one != other, True)

    def test_other_yards(self):
        for one, other in itertools.permutations(one_of_each() + without_things(), 2):
            self.assertIs(Box(one) == Box(other), False)
        self.assertIs(Box(Rows([1, 2])) == Box(Rows([2, 1])), False)
        self.assertIs(Box(Rows([1, 2])) == Box(Rows([1, 2, 3])), False)

    def test_anything_else(self):
        for box in boxes() + [Box(yard) for yard in without_things()]:
            others = no_lists() + [box.yard(), box.answers(), box.asked(), Willing(box.yard()), [box], (box,), Box,
                                   vars(box), Odd(), Equal()]
            for other in others:
                self.assertIs(box == other, False)
                self.assertIs(box != other, True)

    def test_length(self):
        for yard in one_of_each():
            box = Box(yard)
            lengths = [len(box)]
            for thing in (3, 1, 1, 0, 3, 2):
                box.ask(thing)
                lengths.append(len(box))
            self.assertEqual(lengths, [0, 1, 2, 2, 3, 3, 4])


class Alone(unittest.TestCase):
    def test_methods_stand_in_the_class_itself(self):
        for name in METHODS:
            self.assertIn(name, vars(Box))

    def test_a_box_is_an_asked(self):
        self.assertTrue(issubclass(Box, Asked))
        for box in boxes():
            self.assertIsInstance(box, Asked)
        with self.assertRaises(NotImplementedError):
            Asked(Rows([1])).ask(0)

    def test_by_names(self):
        box = Box(yard=Rows([5, 3, 6]))
        self.assertEqual((box.ask(thing=2), box.told(thing=2), box.told(thing=1)), (False, False, None))
        self.assertEqual(box.play(things=[0, 1]), [True, True])

    def test_what_is_handed_in_stays_and_may_be_changed(self):
        for yard in one_of_each():
            box, things = Box(yard), [2, 0, 2]
            shown = repr(yard)
            box.play(things)
            self.assertEqual((things, repr(yard)), ([2, 0, 2], shown))
            things[0] = 1
            things.clear()
            self.assertEqual(box.asked(), [2, 0])
        pairs = [(0, 1), (1, 0), (1, 2)]
        box = Box(Ties(3, pairs))
        pairs.clear()
        self.assertEqual(box.play([0, 1, 2]), [False, True, True])

    def test_told_lists_are_the_askers_own(self):
        for box in boxes():
            stood = copy.deepcopy(standing(box))
            for tell in (box.yes, box.no, box.unasked, box.asked, box.answers):
                told, again = tell(), tell()
                self.assertIsNot(told, again)
                told.append(1)
                told.reverse()
                self.assertEqual(tell(), again)
            truths = box.play([2, 0])
            truths.clear()
            self.assertEqual(standing(box), stood)
            self.assertEqual(box.play([2, 0]), [truth for thing, truth in box.answers()])

    def test_two_boxes_know_nothing_of_one_another(self):
        dice = random.Random(58)
        for yard in one_of_each() + [Pairs()]:
            words = Words(yard)
            one, other = Box(yard), Box(yard)
            first, second = dice.sample(yard.things(), len(yard)), dice.sample(yard.things(), len(yard))
            for at in range(len(yard)):
                one.ask(first[at])
                other.ask(second[at])
                self.assertEqual(standing(one), expected_standing(words, first[:at + 1]))
                self.assertEqual(standing(other), expected_standing(words, second[:at + 1]))
            other.back()
            self.assertEqual(standing(one), expected_standing(words, first))


if __name__ == "__main__":
    unittest.main()
