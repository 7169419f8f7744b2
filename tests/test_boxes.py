"""Boxes: points [17] and [18], and what point [4] says of their answers."""

import itertools
import random
import unittest

import asking
from second import second_worth
from words import asked, one_of_each, some_orders, some_words
from noaslong.beside import Beside
from noaslong.boxes import Box
from noaslong.lots import Lots
from noaslong.mirrors import Mirror
from noaslong.parts import Part
from noaslong.rows import Rows
from noaslong.seats import Seats
from noaslong.ties import Ties


class OfABox:
    """What a box says."""

    kind = Box

    def said(self, words, order):
        return words.answers(order)


class ByWords(OfABox, asking.ByWords, unittest.TestCase):
    def says_of_many(self, yard, box, thing):
        others = sorted({*box.yes(), *box.unasked()} - {thing})
        return second_worth(yard, others) != second_worth(yard, range(24))

    def test_what_it_said_yes_to_and_what_is_unasked_fulfil(self):
        dice = random.Random(59)
        for words in some_words():
            box = Box(words.yard)
            for step in range(20):
                if len(box) and dice.randrange(3) == 0:
                    box.back()
                elif words.things:
                    box.ask(dice.choice(sorted(words.things)))
                self.assertTrue(words.fulfils(box.yes() + box.unasked()))


class Edges(OfABox, asking.Edges, unittest.TestCase):
    def test_ordinary_ones(self):
        box = Box(Ties(3, [(0, 1), (1, 2), (2, 0)]))
        self.assertEqual((box.ask(1), box.ask(0), box.ask(2)), (False, True, True))
        self.assertEqual((box.yes(), box.no(), box.asked()), ([0, 2], [1], [1, 0, 2]))
        self.assertEqual(box.answers(), [(1, False), (0, True), (2, True)])
        self.assertEqual(Box(Rows([5, 3, 6])).play([2, 1, 0]), [False, True, True])
        self.assertEqual(Box(Lots([1, 2], [0, 0, 1, 1, 1])).play([0, 2, 3, 4, 1]), [False, False, True, True, True])
        self.assertEqual(Box(Seats(2, [[0], [1], [0, 1]])).play([0, 1, 2]), [False, True, True])
        self.assertEqual(Box(Mirror(Rows([5, 3, 6]))).play([2, 1, 0]), [False, False, True])
        self.assertEqual(Box(Part(Rows([5, 3, 6]), granted=[1])).play([1, 0]), [False, True])
        self.assertEqual(Box(Beside(Rows([5, 5]), Lots([1], [0, 0]))).play([3, 0, 1, 2]), [False, False, True, True])

    def test_idle_and_alike_things(self):
        for yard in one_of_each():
            self.assertEqual(Box(yard).play([3, 0, 1, 2]), [False, False, True, True])
            self.assertEqual(Box(yard).play([2, 1, 0, 3]), [True, False, True, False])


class Whole(unittest.TestCase):
    """Point [4]: all asked, a box has said yes to the least heap that was asked last."""

    def test_the_one_asked_last(self):
        for words in some_words():
            least = words.all_least()
            for order in some_orders(len(words.things), 6, 55):
                box = asked(words.yard, order)
                times = {thing: at for at, thing in enumerate(order)}
                latest = max(least, key=lambda heap: sorted([times[thing] for thing in heap], reverse=True))
                self.assertEqual(box.yes(), latest, (words.yard, order))

    def test_each_least_heap_comes_of_some_order(self):
        for words in some_words():
            if len(words.things) <= 4:
                orders = itertools.permutations(sorted(words.things))
                told = {tuple(asked(words.yard, list(order)).yes()) for order in orders}
                self.assertEqual(told, {tuple(heap) for heap in words.all_least()})

    def test_just_a_least_heap_once_all_that_is_not_idle_was_asked(self):
        for words in some_words():
            for order in some_orders(len(words.things), 4, 56):
                box = Box(words.yard)
                for thing in order:
                    box.ask(thing)
                    some_left = any(not words.is_idle(other) for other in box.unasked())
                    self.assertIs(words.is_least(box.yes()), not some_left, (words.yard, order))


class Back(OfABox, asking.Back, unittest.TestCase):
    pass


class Refused(OfABox, asking.Refused, unittest.TestCase):
    pass


class Copies(OfABox, asking.Copies, unittest.TestCase):
    pass


class Equals(OfABox, asking.Equals, unittest.TestCase):
    pass


class Alone(OfABox, asking.Alone, unittest.TestCase):
    pass


if __name__ == "__main__":
    unittest.main()
