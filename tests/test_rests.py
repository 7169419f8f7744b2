"""What is left of a box: point [27], and point [4] of it."""

import random
import unittest

from refusals import Raised
from second import full_layers, full_yards, worths
from words import asked, one_of_each, some_orders, some_words
from noaslong.beside import Beside
from noaslong.boxes import Box
from noaslong.eager import Eager
from noaslong.lots import Lots
from noaslong.mirrors import Mirror
from noaslong.parts import Part
from noaslong.rests import rest_of
from noaslong.rows import Rows
from noaslong.seats import Seats
from noaslong.ties import Ties

KINDS = (Box, Eager)


class Rests(unittest.TestCase):
    def test_ordinary_ones(self):
        yard = Ties(3, [(0, 1), (1, 2), (2, 0), (1, 1)])
        rest = rest_of(asked(yard, [1, 0]))
        self.assertTrue(rest == Part(yard, away=[1], granted=[0]))
        self.assertEqual((rest.things(), worths(rest)), ([0, 1], [0, 1, 0, 1]))
        rest = rest_of(asked(yard, [1, 0], Eager))
        self.assertTrue(rest == Part(yard, granted=[0, 1]))
        self.assertEqual(worths(rest), [0, 0, 0, 0])
        self.assertEqual(repr(rest_of(asked(Rows([5, 3]), [1]))), "Part(Rows([5, 3]), away=[], granted=[1])")

    def test_no_is_given_away_and_yes_is_granted(self):
        for kind in KINDS:
            for words in [words for words in some_words() if words.yard.depth() < 4]:
                for order in some_orders(len(words.things), 1, 41):
                    for end in range(len(order) + 1):
                        box = asked(words.yard, order[:end], kind)
                        rest = rest_of(box)
                        self.assertIs(type(rest), Part)
                        self.assertTrue(rest.of() == words.yard)
                        self.assertEqual((rest.away(), rest.granted()), (box.no(), box.yes()))
                        self.assertEqual([rest.old(thing) for thing in rest.things()], box.unasked())

    def test_a_box_of_it_answers_on_just_as_the_box_does(self):
        dice = random.Random(42)
        yards = [words.yard for words in some_words()] + full_layers() + full_yards()[::4]
        for kind in KINDS:
            for yard in [yard for yard in yards if yard.depth() < 4]:
                for order in some_orders(len(yard), 1, 43)[:4]:
                    end = dice.randrange(len(order) + 1)
                    box = asked(yard, order[:end], kind)
                    rest = rest_of(box)
                    going_on = kind(rest)
                    for thing in order[end:]:
                        self.assertIs(going_on.ask(rest.new(thing)), box.ask(thing), (kind, yard, order, end))

    def test_with_asks_taken_back_between(self):
        dice = random.Random(44)
        for kind in KINDS:
            for words in [words for words in some_words() if words.things and words.yard.depth() < 4]:
                box = asked(words.yard, sorted(words.things)[:1], kind)
                rest = rest_of(box)
                going_on = kind(rest)
                for step in range(12):
                    if len(going_on) and dice.randrange(3) == 0:
                        self.assertEqual(rest.old(going_on.back()), box.back())
                    elif rest.many():
                        thing = dice.choice(rest.things())
                        self.assertIs(going_on.ask(thing), box.ask(rest.old(thing)))
                    self.assertEqual([rest.old(thing) for thing in going_on.asked()], box.asked()[1:])

    def test_of_which_nothing_or_everything_was_asked(self):
        for kind in KINDS:
            for yard in one_of_each() + [Mirror(Rows([5, 0])), Beside(Rows([5]), Lots([1], [0])), Seats(0, [])]:
                self.assertTrue(rest_of(kind(yard)) == Part(yard))
                box = asked(yard, yard.things(), kind)
                rest = rest_of(box)
                self.assertEqual((rest.many(), rest.whole(), rest.away(), rest.granted()),
                                 (0, 0, box.no(), box.yes()))

    def test_the_box_stays_and_later_asks_have_no_bearing(self):
        for kind in KINDS:
            for yard in one_of_each():
                box = asked(yard, [2, 0], kind)
                before, rest = box.copied(), rest_of(box)
                self.assertTrue(box == before)
                shown, told = repr(rest), worths(rest)
                box.play([1, 3])
                self.assertEqual((repr(rest), worths(rest)), (shown, told))
                rest.away().append(1)
                rest.granted().clear()
                self.assertEqual((repr(rest), box.asked()), (shown, [2, 0, 1, 3]))

    def test_by_name(self):
        self.assertTrue(rest_of(box=Box(Rows([5]))) == Part(Rows([5])))


class Deep(Raised, unittest.TestCase):
    def test_what_is_left_of_what_is_left(self):
        for kind in KINDS:
            for yard in (Ties(4, [(0, 1), (1, 2), (2, 0), (2, 3), (3, 3), (0, 3)]), Rows([5, 3, 6, 0, 1, 7]),
                         Lots([2, 1], [0, 0, 0, 1, 1, 1]), Seats(3, [[0], [0, 1], [], [2], [1, 2], [0]])):
                box, going_on, old = kind(yard), kind(yard), list(range(6))
                for thing in (3, 1, 0, 2):
                    self.assertIs(going_on.ask(thing), box.ask(old[thing]))
                    rest = rest_of(going_on)
                    going_on, old = kind(rest), [old[rest.old(thing)] for thing in rest.things()]
                self.assertEqual(rest.depth(), 4)
                self.assertIs(going_on.ask(1), box.ask(old[1]))
                before = going_on.copied()
                self.raised("NoYard", rest_of, going_on, what="deep", who=None)
                self.assertTrue(going_on == before)

    def test_too_deep_though_nothing_was_asked(self):
        deep = Mirror(Mirror(Mirror(Mirror(Rows([5, 3])))))
        for kind in KINDS:
            for things in ([], [0], [1, 0]):
                self.raised("NoYard", rest_of, asked(deep, things, kind), what="deep", who=None)
            self.assertEqual(rest_of(kind(deep.of())).many(), 2)


if __name__ == "__main__":
    unittest.main()
