"""Two yards side by side: point [26], and what point [4] says of boxes of them."""

import itertools
import random
import unittest

from refusals import Raised
from second import full_layers, full_yards, grounds, heaps_of, some_lots, some_rows, some_seats, some_ties
from words import Words, some_orders
from noaslong.beside import Beside
from noaslong.boxes import Box
from noaslong.eager import Eager
from noaslong.lots import Lots
from noaslong.mirrors import Mirror
from noaslong.parts import Part
from noaslong.rows import Rows
from noaslong.seats import Seats
from noaslong.ties import Ties


def sides():
    """Small yards to set side by side: of each sort, a mirror, a part, and one without things."""
    return [Ties(2, [(0, 1), (1, 0), (1, 1)]), Rows([5, 3, 6]), Lots([1, 0], [0, 0, 1]), Seats(1, [[0], [], [0]]),
            Mirror(Rows([5, 5, 0])), Part(Rows([5, 3, 6, 0]), away=[3], granted=[1]), Rows([])]


def pairs():
    return list(itertools.product(sides(), repeat=2))


class Worth(unittest.TestCase):
    def test_ordinary_ones(self):
        yard = Beside(Rows([5, 5]), Lots([1], [0, 0, 0]))
        self.assertEqual([yard.worth(heap) for heap in ([0], [0, 1], [2, 3], [0, 4], [4, 3, 2, 1, 0])], [1, 1, 1, 2, 2])
        yard = Beside(Ties(3, [(0, 1), (2, 2)]), Seats(2, [[1], [1, 0]]))
        self.assertEqual([yard.worth(heap) for heap in ([1], [2], [3, 2], [3, 0, 2], [])], [0, 1, 2, 3, 0])

    def test_by_the_words_over_all_heaps(self):
        for one, other in pairs():
            yard, first, second = Beside(one, other), Words(one), Words(other)
            start = one.many()
            self.assertEqual(yard.many(), start + other.many())
            for heap in heaps_of(yard.many()):
                here, there = {thing for thing in heap if thing < start}, {thing for thing in heap if thing >= start}
                expected = first.worth(here) + second.worth({thing - start for thing in there})
                self.assertEqual(yard.worth(heap), expected, (yard, heap))

    def test_a_ring_or_a_least_fence_has_things_of_one_alone(self):
        for one, other in pairs():
            words, start = Words(Beside(one, other)), one.many()
            for heap in words.heaps:
                if words.is_ring(heap) or words.is_least_fence(heap):
                    self.assertEqual(len({thing < start for thing in heap}), 1, (words.yard, heap))


class Boxes(unittest.TestCase):
    def test_a_box_answers_as_two_boxes(self):
        for kind in (Box, Eager):
            for one, other in pairs():
                start = one.many()
                for order in some_orders(start + other.many(), 4, 31):
                    both, first, second = kind(Beside(one, other)), kind(one), kind(other)
                    for thing in order:
                        expected = first.ask(thing) if thing < start else second.ask(thing - start)
                        self.assertIs(both.ask(thing), expected, (one, other, order))

    def test_with_asks_taken_back_between(self):
        dice = random.Random(32)
        for kind in (Box, Eager):
            for one, other in pairs():
                both, start = kind(Beside(one, other)), one.many()
                for step in range(20):
                    if len(both) and dice.randrange(3) == 0:
                        both.back()
                    elif both.unasked():
                        both.ask(dice.choice(both.unasked()))
                    first, second = kind(one), kind(other)
                    for thing, truth in both.answers():
                        self.assertIs(first.ask(thing) if thing < start else second.ask(thing - start), truth)

    def test_of_24_things(self):
        dice = random.Random(33)
        for yard in [yard for yard in full_layers() if isinstance(yard, Beside)]:
            both, first, second = Box(yard), Box(yard.one()), Box(yard.other())
            start = yard.one().many()
            for thing in dice.sample(range(24), 24):
                expected = first.ask(thing) if thing < start else second.ask(thing - start)
                self.assertIs(both.ask(thing), expected)


class Made(unittest.TestCase):
    def test_one_and_other(self):
        for one, other in pairs():
            yard = Beside(one, other)
            self.assertTrue(yard.one() == one and yard.other() == other)
            self.assertEqual((yard.things(), len(yard)), (list(range(len(one) + len(other))), len(one) + len(other)))
            self.assertEqual(repr(yard), f"Beside({one!r}, {other!r})")
            self.assertTrue(Beside(other=other, one=one) == yard)

    def test_equal_where_both_are_each_at_its_place(self):
        for one, other in pairs():
            for here, there in zip(sides(), sides()[1:]):
                self.assertIs(Beside(one, other) == Beside(here, there), one == here and other == there)
            self.assertIs(Beside(one, other) == Beside(other, one), one == other)
            self.assertIs(Beside(one, other) != Beside(one, other), False)

    def test_one_yard_may_stand_at_both_places(self):
        for yard in grounds():
            self.assertEqual(Beside(yard, yard).whole(), yard.whole() * 2)

    def test_what_they_were_made_of_has_no_bearing(self):
        rows, lots = [5, 5], [0, 0]
        yard = Beside(Rows(rows), Lots([1], lots))
        rows.clear()
        lots.append(0)
        yard.one().rows().clear()
        yard.things().clear()
        self.assertEqual((repr(yard), yard.many()), ("Beside(Rows([5, 5]), Lots([1], [0, 0]))", 4))


class Refused(Raised, unittest.TestCase):
    def too_many(self, one, other):
        self.raised("NoYard", Beside, one, other, what="many", who=None)

    def test_24_together_and_one_more(self):
        dice = random.Random(34)
        for many in (0, 1, 11, 12, 13, 23, 24):
            for make in (lambda count: some_ties(dice, 4, count), lambda count: some_rows(dice, 4, count),
                         lambda count: some_lots(dice, 3, 3, count), lambda count: some_seats(dice, 4, 2, count)):
                yard = Beside(make(many), make(24 - many))
                self.assertEqual((yard.many(), yard.things()), (24, list(range(24))))
                if many > 0:
                    self.too_many(make(many), make(25 - many))
                    self.too_many(make(25 - many), make(many))

    def test_layered_ones(self):
        full = full_yards()[0]
        self.too_many(Mirror(full), Rows([0]))
        self.too_many(Rows([0]), Part(full))
        self.too_many(Beside(full, Rows([])), Rows([0]))
        self.assertEqual(Beside(Part(full, away=[3]), Rows([0])).many(), 24)
        self.too_many(full, full)


if __name__ == "__main__":
    unittest.main()
