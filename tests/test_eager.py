"""Eager boxes: point [24], and what point [4] says of them."""

import random
import unittest

import asking
from second import full_layers, second_worth
from words import asked, one_of_each, some_orders, some_words, yards_of_four
from noaslong.beside import Beside
from noaslong.boxes import Box
from noaslong.eager import Eager
from noaslong.least import first_least
from noaslong.lots import Lots
from noaslong.mirrors import Mirror
from noaslong.parts import Part
from noaslong.rows import Rows
from noaslong.seats import Seats
from noaslong.ties import Ties


class OfAnEager:
    """What an eager box says."""

    kind = Eager

    def said(self, words, order):
        return words.eager_answers(order)


class ByWords(OfAnEager, asking.ByWords, unittest.TestCase):
    def says_of_many(self, yard, box, thing):
        return second_worth(yard, [*box.yes(), thing]) != second_worth(yard, box.yes())


class Edges(OfAnEager, asking.Edges, unittest.TestCase):
    def test_ordinary_ones(self):
        box = Eager(Ties(3, [(0, 1), (1, 2), (2, 0)]))
        self.assertEqual((box.ask(1), box.ask(0), box.ask(2)), (True, True, False))
        self.assertEqual((box.yes(), box.no(), box.asked()), ([0, 1], [2], [1, 0, 2]))
        self.assertEqual(box.answers(), [(1, True), (0, True), (2, False)])
        self.assertEqual(Eager(Rows([5, 3, 6])).play([2, 1, 0]), [True, True, False])
        self.assertEqual(Eager(Lots([1, 2], [0, 0, 1, 1, 1])).play([0, 2, 3, 4, 1]), [True, True, True, False, False])
        self.assertEqual(Eager(Seats(2, [[0], [1], [0, 1]])).play([0, 1, 2]), [True, True, False])
        self.assertEqual(Eager(Mirror(Rows([5, 3, 6]))).play([2, 1, 0]), [True, False, False])
        self.assertEqual(Eager(Part(Rows([5, 3, 6]), granted=[1])).play([1, 0]), [True, False])
        self.assertEqual(Eager(Beside(Rows([5, 5]), Lots([1], [0, 0]))).play([3, 0, 1, 2]), [True, True, False, False])

    def test_idle_and_alike_things(self):
        for yard in one_of_each():
            self.assertEqual(Eager(yard).play([3, 0, 1, 2]), [False, True, False, True])
            self.assertEqual(Eager(yard).play([2, 1, 0, 3]), [True, True, False, False])


class Whole(unittest.TestCase):
    def test_all_asked_it_is_the_least_heap_first_in_the_order(self):
        for words in some_words():
            for order in some_orders(len(words.things), 6, 91):
                box = asked(words.yard, order, Eager)
                self.assertTrue(words.is_least(box.yes()))
                self.assertEqual(box.yes(), first_least(words.yard, order))
                times = {thing: at for at, thing in enumerate(order)}
                earliest = min(words.all_least(), key=lambda heap: sorted(times[thing] for thing in heap))
                self.assertEqual(box.yes(), earliest, (words.yard, order))

    def opposite(self, eager, box):
        """Whether both were asked the same, and said the opposite to all of it."""
        self.assertEqual(eager.asked(), box.asked())
        self.assertEqual([truth for thing, truth in eager.answers()], [not truth for thing, truth in box.answers()])
        self.assertEqual((eager.yes(), eager.no(), eager.unasked()), (box.no(), box.yes(), box.unasked()))

    def test_it_says_the_opposite_of_a_box_of_the_mirror(self):
        yards = [words.yard for words in some_words() if words.yard.depth() < 4]
        for yard in yards + [yard for yard in full_layers() if yard.depth() < 4]:
            for order in some_orders(len(yard), 2, 92):
                eager, box = Eager(yard), Box(Mirror(yard))
                other_eager, other_box = Eager(Mirror(yard)), Box(yard)
                for thing in order:
                    self.assertIs(eager.ask(thing), not box.ask(thing), (yard, order))
                    self.assertIs(other_eager.ask(thing), not other_box.ask(thing), (yard, order))

    def test_also_behind_back_and_with_a_copy(self):
        dice = random.Random(93)
        for words in [words for words in some_words() if words.things and words.yard.depth() < 4]:
            eager, box = Eager(words.yard), Box(Mirror(words.yard))
            for step in range(25):
                turn = dice.randrange(4)
                if turn == 0 and len(box):
                    self.assertEqual(eager.back(), box.back())
                elif turn == 1:
                    eager, box = eager.copied(), box.copied()
                else:
                    thing = dice.choice(sorted(words.things))
                    self.assertIs(eager.ask(thing), not box.ask(thing))
                self.opposite(eager, box)


class Back(OfAnEager, asking.Back, unittest.TestCase):
    pass


class Refused(OfAnEager, asking.Refused, unittest.TestCase):
    pass


class Copies(OfAnEager, asking.Copies, unittest.TestCase):
    pass


class Equals(OfAnEager, asking.Equals, unittest.TestCase):
    def test_a_box_and_an_eager_one_are_not_equal(self):
        for yard in yards_of_four() + [Rows([])]:
            for things in ([], yard.things()[::2], yard.things()):
                eager, box = asked(yard, things, Eager), asked(yard, things)
                for one, other in ((eager, box), (box, eager)):
                    self.assertIs(one == other, False)
                    self.assertIs(one != other, True)


class Alone(OfAnEager, asking.Alone, unittest.TestCase):
    def test_an_eager_one_is_no_box(self):
        self.assertFalse(issubclass(Eager, Box) or issubclass(Box, Eager))


if __name__ == "__main__":
    unittest.main()
