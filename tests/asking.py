"""What is promised alike of all that is asked, of boxes and of eager ones: a test case says which."""

import copy
import itertools
import random

from anything import Equal, Odd, no_lists, no_things, no_wholes
from refusals import Raised
from second import full_layers, full_yards, second_worth, some_layers, without_things
from words import Pairs, Words, asked, one_of_each, some_orders, some_words, yards_of_four
from noaslong.boxes import Asked
from noaslong.mirrors import Mirror
from noaslong.parts import Part
from noaslong.rows import Rows
from noaslong.seats import Seats
from noaslong.ties import Ties
from noaslong.yards import Yard

METHODS = ("__init__", "yard", "ask", "play", "told", "yes", "no", "unasked", "asked", "answers", "back", "copied",
           "__eq__", "__len__")


class Willing(Asked):
    """Something else of which things are asked: it says yes to all."""

    def says(self, thing):
        return True


def standing(box):
    """All that a box tells of how it stands."""
    told = [box.told(thing) for thing in box.yard().things()]
    return (box.yes(), box.no(), box.unasked(), box.asked(), box.answers(), told, len(box))


class Asking(Raised):
    """A test case has the kind of box, and what it says by the document's words, asked in an order."""

    kind = None

    def said(self, words, order):
        raise NotImplementedError

    def boxes(self):
        """Boxes of several yards, of which some things were asked."""
        return [asked(yard, [2, 0], self.kind) for yard in yards_of_four()]

    def expected(self, words, order):
        """How a box stands by the document's words, asked in this order."""
        said = self.said(words, order)
        known = dict(said)
        yes, no = [sorted(thing for thing in known if known[thing] is truth) for truth in (True, False)]
        told = [known.get(thing) for thing in sorted(words.things)]
        return (yes, no, sorted(words.things - set(order)), list(order), said, told, len(order))


class ByWords(Asking):
    def test_each_ask_in_many_orders(self):
        for words in some_words():
            for order in some_orders(len(words.things), 6, 51):
                box = self.kind(words.yard)
                for at, thing in enumerate(order):
                    self.assertEqual(standing(box), self.expected(words, order[:at]), (words.yard, order))
                    self.assertIs(box.ask(thing), self.said(words, order[:at + 1])[-1][1], (words.yard, order))
                self.assertEqual(standing(box), self.expected(words, order), (words.yard, order))

    def test_play(self):
        for words in some_words():
            for order in some_orders(len(words.things), 4, 52):
                box = self.kind(words.yard)
                self.assertEqual(box.play(order), [truth for thing, truth in self.said(words, order)])
                self.assertEqual(standing(box), self.expected(words, order))

    def test_with_asks_taken_back_between(self):
        dice = random.Random(53)
        for words in some_words():
            box, order = self.kind(words.yard), []
            for step in range(30):
                if order and dice.randrange(3) == 0:
                    self.assertEqual(box.back(), order.pop())
                elif words.things:
                    thing = dice.choice(sorted(words.things))
                    order += [thing] if thing not in order else []
                    self.assertIs(box.ask(thing), dict(self.said(words, order))[thing])
                self.assertEqual(standing(box), self.expected(words, order))

    def says_of_many(self, yard, box, thing):
        """What the box has to say to the thing, of a yard of so many things that not all heaps can be looked at."""
        raise NotImplementedError

    def test_of_24_things(self):
        dice = random.Random(54)
        yards = [yard for yard in full_yards() if not isinstance(yard, Seats) or yard.seats() < 12]
        for yard in yards + full_layers():
            box, order = self.kind(yard), dice.sample(range(24), 24)
            for thing in order:
                expected = self.says_of_many(yard, box, thing)
                self.assertIs(box.ask(thing), expected)
            self.assertEqual((box.asked(), len(box), box.unasked()), (order, 24, []))
            self.assertEqual(len(box.yes()), second_worth(yard, range(24)))


class Edges(Asking):
    def test_at_first_all_are_unasked(self):
        for yard in yards_of_four():
            self.assertEqual(standing(self.kind(yard)), ([], [], [0, 1, 2, 3], [], [], [None] * 4, 0))

    def test_of_a_yard_without_things(self):
        for yard in without_things() + [yard for yard in some_layers() if yard.many() == 0]:
            box = self.kind(yard)
            self.assertEqual((box.play([]), standing(box)), ([], ([], [], [], [], [], [], 0)))
            self.assertTrue(box.copied() == box)

    def test_asked_again(self):
        for box in self.boxes():
            before, stood = box.answers(), standing(box)
            for thing, truth in before + before:
                self.assertIs(box.ask(thing), truth)
                self.assertEqual(standing(box), stood)
            self.assertEqual(box.play([2, 0, 0, 2]), [dict(before)[thing] for thing in (2, 0, 0, 2)])
            self.assertEqual(standing(box), stood)

    def test_asked_twice_in_one_play(self):
        for yard in yards_of_four():
            box, known = self.kind(yard), dict(self.said(Words(yard), [0, 1, 3]))
            things = [0, 0, 1, 0, 1, 3]
            self.assertEqual(box.play(things), [known[thing] for thing in things])
            self.assertEqual((box.asked(), len(box)), ([0, 1, 3], 3))

    def test_truths_are_truths(self):
        for yard in yards_of_four() + [Pairs()]:
            box = self.kind(yard)
            told = [box.ask(0), *box.play(yard.things()), box.told(0), *[truth for thing, truth in box.answers()]]
            self.assertEqual({type(truth) for truth in told}, {bool})
            self.assertEqual({type(answer) for answer in box.answers()}, {tuple})

    def test_yard(self):
        for yard in yards_of_four() + without_things():
            self.assertTrue(self.kind(yard).yard() == yard)


class Back(Asking):
    def test_all_is_as_it_was(self):
        for yard in yards_of_four():
            for order in itertools.permutations(range(4)):
                box, stood = self.kind(yard), []
                for thing in order:
                    stood.append((standing(box), box.copied()))
                    box.ask(thing)
                for thing in order[::-1]:
                    self.assertEqual(box.back(), thing)
                    before, copied = stood.pop()
                    self.assertEqual(standing(box), before)
                    self.assertTrue(box == copied)

    def test_an_answer_may_be_another_one_behind_it(self):
        # The first two are alike there, so the one that is asked first decides.
        for yard in one_of_each():
            box = self.kind(yard)
            one, other = box.play([0, 1])
            self.assertIs(one, not other)
            self.assertEqual((box.back(), box.back(), box.told(0), box.told(1)), (1, 0, None, None))
            self.assertEqual(box.play([1, 0]), [one, other])

    def test_asked_again_is_no_ask_more(self):
        for box in self.boxes():
            box.ask(2)
            self.assertEqual((box.back(), box.asked()), (0, [2]))
            self.assertEqual((box.back(), box.asked()), (2, []))

    def test_where_there_is_none(self):
        for yard in yards_of_four() + without_things():
            box = self.kind(yard)
            self.raised("NotAsked", box.back, who=None)
            self.assertEqual(standing(box), standing(self.kind(yard)))
        for box in self.boxes():
            box.back()
            box.back()
            self.raised("NotAsked", box.back, who=None)
            self.assertTrue(box == self.kind(box.yard()))


class Refused(Asking):
    def test_no_yard(self):
        box = self.kind(Rows([1]))
        wrongs = no_lists() + no_wholes() + [Ties, Yard, self.kind, box, [Rows([1])], (Rows([1]),), "Rows([1])"]
        for wrong in wrongs:
            self.raised("NoYard", self.kind, wrong, what="yard", who=None)

    def test_no_thing(self):
        for box in self.boxes():
            stood = standing(box)
            for wrong in no_things(4):
                for call in (box.ask, box.told):
                    self.raised("NoThing", call, wrong, who=wrong)
                    self.assertEqual(standing(box), stood)

    def test_no_thing_of_a_yard_of_none_or_24(self):
        for yard in without_things() + [Mirror(Rows([])), Part(Rows([5]), away=[0])]:
            for wrong in no_things(0) + [0, 1]:
                self.raised("NoThing", self.kind(yard).ask, wrong, who=wrong)
                self.raised("NoThing", self.kind(yard).told, wrong, who=wrong)
                self.raised("NoThing", self.kind(yard).play, [wrong], who=wrong)
        for yard in full_yards()[::5] + full_layers()[::4]:
            for wrong in no_things(24):
                self.raised("NoThing", self.kind(yard).ask, wrong, who=wrong)

    def test_play_is_refused_ahead_of_any_ask(self):
        for box in self.boxes():
            stood = standing(box)
            for wrong in no_things(4):
                for things in ([wrong], [1, wrong], [1, 3, wrong], [wrong, 1], [2, 2, wrong, 3], [1, wrong, None, 9]):
                    self.raised("NoThing", box.play, things, who=wrong)
                    self.assertEqual(standing(box), stood)

    def test_true_and_false_are_no_things_though_0_and_1_were_asked(self):
        for box in self.boxes():
            box.play([0, 1])
            for wrong in (True, False):
                for call in (box.ask, box.told, lambda thing: box.play([0, thing])):
                    self.raised("NoThing", call, wrong, who=wrong)


class Copies(Asking):
    def test_a_copy_stands_alike(self):
        for box in self.boxes():
            copied = box.copied()
            self.assertIs(type(copied), self.kind)
            self.assertIsNot(copied, box)
            self.assertEqual(standing(copied), standing(box))
            self.assertTrue(copied == box and box == copied)

    def test_a_copy_goes_its_own_way(self):
        for box in self.boxes():
            stood = standing(box)
            copied = box.copied()
            copied.ask(3)
            self.assertEqual((standing(box), copied.asked()), (stood, [2, 0, 3]))
            self.assertFalse(copied == box)
            copied.back()
            copied.back()
            copied.ask(1)
            self.assertEqual((standing(box), copied.asked()), (stood, [2, 1]))
            copied = box.copied()
            box.back()
            box.back()
            self.assertEqual(standing(copied), stood)

    def test_a_copy_goes_on_as_the_box_would(self):
        for words in some_words()[::3]:
            for order in some_orders(len(words.things), 3, 57):
                for end in range(len(order) + 1):
                    box = asked(words.yard, order[:end], self.kind)
                    copied = box.copied()
                    self.assertEqual(copied.play(order[end:]), box.play(order[end:]))
                    self.assertEqual(standing(copied), standing(box))


class Equals(Asking):
    def test_where_yards_and_asks_are(self):
        for yard, again in zip(yards_of_four() + without_things(), yards_of_four() + without_things()):
            self.assertIs(self.kind(yard) == self.kind(again), True)
            self.assertIs(self.kind(yard) != self.kind(again), False)
        for box, again in zip(self.boxes(), self.boxes()):
            self.assertIs(box == again, True)
            box.ask(2)
            self.assertIs(box == again, True)
            box.ask(1)
            self.assertIs(box == again, False)
            self.assertIs(box != again, True)
            box.back()
            self.assertIs(box == again, True)

    def test_the_order_of_the_asks_counts(self):
        for yard in one_of_each():
            # Both say the same to 0 and to 3, whichever is asked first.
            one, other = self.kind(yard), self.kind(yard)
            self.assertEqual(one.play([0, 3]), other.play([3, 0])[::-1])
            self.assertIs(one == other, False)
            self.assertIs(one != other, True)

    def test_other_yards(self):
        for one, other in itertools.permutations(yards_of_four() + without_things(), 2):
            self.assertIs(self.kind(one) == self.kind(other), False)
        self.assertIs(self.kind(Rows([1, 2])) == self.kind(Rows([2, 1])), False)
        self.assertIs(self.kind(Rows([1, 2])) == self.kind(Rows([1, 2, 3])), False)

    def unlike(self, box):
        """What the box is not equal to."""
        return no_lists() + [box.yard(), box.answers(), box.asked(), Willing(box.yard()), [box], (box,), self.kind,
                             vars(box), Odd(), Equal()]

    def test_anything_else(self):
        for box in self.boxes() + [self.kind(yard) for yard in without_things()]:
            for other in self.unlike(box):
                self.assertIs(box == other, False)
                self.assertIs(box != other, True)

    def test_length(self):
        for yard in yards_of_four():
            box = self.kind(yard)
            lengths = [len(box)]
            for thing in (3, 1, 1, 0, 3, 2):
                box.ask(thing)
                lengths.append(len(box))
            self.assertEqual(lengths, [0, 1, 2, 2, 3, 3, 4])


class Alone(Asking):
    def test_methods_stand_in_the_class_itself(self):
        for name in METHODS:
            self.assertIn(name, vars(self.kind))

    def test_it_is_an_asked(self):
        self.assertTrue(issubclass(self.kind, Asked))
        for box in self.boxes():
            self.assertIsInstance(box, Asked)
        with self.assertRaises(NotImplementedError):
            Asked(Rows([1])).ask(0)

    def test_by_names(self):
        box = self.kind(yard=Rows([5, 3, 6]))
        truth = box.ask(thing=2)
        self.assertEqual((box.told(thing=2), box.told(thing=1)), (truth, None))
        self.assertEqual(len(box.play(things=[0, 1])), 2)

    def test_what_is_handed_in_stays_and_may_be_changed(self):
        for yard in yards_of_four():
            box, things = self.kind(yard), [2, 0, 2]
            shown = repr(yard)
            box.play(things)
            self.assertEqual((things, repr(yard)), ([2, 0, 2], shown))
            things[0] = 1
            things.clear()
            self.assertEqual(box.asked(), [2, 0])
        pairs = [(0, 1), (1, 0), (1, 2)]
        box, again = self.kind(Ties(3, pairs)), self.kind(Ties(3, list(pairs)))
        pairs.clear()
        self.assertEqual(box.play([0, 1, 2]), again.play([0, 1, 2]))

    def test_told_lists_are_the_askers_own(self):
        for box in self.boxes():
            stood = copy.deepcopy(standing(box))
            for tell in (box.yes, box.no, box.unasked, box.asked, box.answers):
                told, again = tell(), tell()
                self.assertIsNot(told, again)
                told.append(1)
                told.reverse()
                self.assertEqual(tell(), again)
            truths = box.play([2, 0])
            truths.clear()
            self.assertEqual(standing(box), stood)
            self.assertEqual(box.play([2, 0]), [truth for thing, truth in box.answers()])

    def test_two_know_nothing_of_one_another(self):
        dice = random.Random(58)
        for yard in yards_of_four() + [Pairs()]:
            words = Words(yard)
            one, other = self.kind(yard), self.kind(yard)
            first, second = dice.sample(yard.things(), len(yard)), dice.sample(yard.things(), len(yard))
            for at in range(len(yard)):
                one.ask(first[at])
                other.ask(second[at])
                self.assertEqual(standing(one), self.expected(words, first[:at + 1]))
                self.assertEqual(standing(other), self.expected(words, second[:at + 1]))
            other.back()
            self.assertEqual(standing(one), self.expected(words, first))
