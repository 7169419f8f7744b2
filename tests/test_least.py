"""Least heaps, orders, the first in an order, exchanging: point [16]."""

import copy
import itertools
import random
import unittest

from anything import no_heaps, no_orders, no_things
from refusals import Raised
from second import full_yards, heaps_of, second_worth, without_things
from words import Pairs, one_of_each, some_orders, some_words
from noaslong import errors
from noaslong.least import all_least, exchange, first_least, is_least
from noaslong.lots import Lots
from noaslong.rows import Rows
from noaslong.seats import Seats
from noaslong.ties import Ties


def first_by_words(words, order):
    taken = []
    for thing in order:
        if not words.carries(taken, thing):
            taken.append(thing)
    return sorted(taken)


class ByWords(unittest.TestCase):
    def test_all_heaps(self):
        for words in some_words():
            for heap in words.heaps:
                self.assertIs(is_least(words.yard, list(heap)), words.is_least(heap), (words.yard, heap))

    def test_all_least_in_order(self):
        for words in some_words():
            expected = [heap for heap in heaps_of(len(words.things)) if words.is_least(heap)]
            self.assertEqual(all_least(words.yard), expected, words.yard)

    def test_first_least(self):
        for words in some_words():
            for order in some_orders(len(words.things), 8, 41):
                told = first_least(words.yard, order)
                self.assertEqual(told, first_by_words(words, order), (words.yard, order))
                self.assertTrue(words.is_least(told))

    def test_each_exchange(self):
        for words in some_words():
            least = [set(heap) for heap in words.all_least()]
            for one, other in itertools.product(least[:14] + least[-3:], least[::-1][:14]):
                for thing in one - other:
                    told = exchange(words.yard, list(one), list(other), thing)
                    self.assertIn(told, other - one)
                    self.assertTrue(words.is_least(one - {thing} | {told}), (words.yard, one, other, thing))
                    self.assertTrue(words.is_least(other - {told} | {thing}), (words.yard, one, other, thing))

    def test_of_24_things(self):
        dice = random.Random(42)
        for yard in full_yards():
            whole = second_worth(yard, range(24))
            one, other = [first_least(yard, dice.sample(range(24), 24)) for at in range(2)]
            for heap in (one, other):
                self.assertEqual((second_worth(yard, heap), len(heap)), (whole, whole))
                self.assertIs(is_least(yard, heap[::-1]), True)
                self.assertIs(is_least(yard, heap[1:]), heap == [])
            for thing in sorted({*one} - {*other})[:3]:
                there = exchange(yard, one, other, thing)
                self.assertIn(there, {*other} - {*one})
                for heap in ({*one} - {thing} | {there}, {*other} - {there} | {thing}):
                    self.assertEqual((second_worth(yard, sorted(heap)), len(heap)), (whole, whole))
            self.assertIs(is_least(yard, list(range(24))), whole == 24)
            self.assertIs(is_least(yard, []), whole == 0)


class Edges(unittest.TestCase):
    def test_ordinary_ones(self):
        square = Ties(4, [(0, 1), (1, 2), (2, 3), (3, 0)])
        self.assertEqual(all_least(square), [[0, 1, 2], [0, 1, 3], [0, 2, 3], [1, 2, 3]])
        self.assertEqual(first_least(square, [3, 1, 0, 2]), [0, 1, 3])
        self.assertEqual(exchange(square, [0, 1, 2], [1, 2, 3], 0), 3)
        self.assertEqual(first_least(Rows([5, 3, 6]), [2, 0, 1]), [0, 2])
        self.assertEqual(all_least(Lots([1, 1], [0, 1, 1])), [[0, 1], [0, 2]])
        self.assertEqual(first_least(Lots([1, 1], [0, 1, 1]), [2, 1, 0]), [0, 2])
        self.assertEqual(all_least(Seats(2, [[0], [0], [0, 1]])), [[0, 2], [1, 2]])
        self.assertEqual(exchange(Seats(2, [[0], [0], [0, 1]]), [2, 0], [1, 2], 0), 1)

    def test_not_each_thing_can_be_exchanged(self):
        # Of the two that the second heap has alone, one breaks the first heap.
        yard = Ties(4, [(0, 1), (2, 3), (1, 2), (0, 3), (1, 3)])
        self.assertEqual(exchange(yard, [0, 1, 2], [3, 4, 1], 0), 3)
        self.assertEqual(exchange(yard, [3, 4, 1], [0, 1, 2], 3), 0)

    def test_idle_things_are_in_no_least_heap(self):
        for yard in one_of_each():
            self.assertEqual(all_least(yard), [[0, 2], [1, 2]])
            self.assertEqual([first_least(yard, order) for order in ([3, 2, 1, 0], [0, 3, 1, 2])], [[1, 2], [0, 2]])
            self.assertEqual([is_least(yard, heap) for heap in ([0, 2, 3], [0], [1, 0], [2, 1])],
                             [False, False, False, True])
            self.assertEqual(exchange(yard, [2, 0], [2, 1], 0), 1)

    def test_where_there_are_no_things_or_only_idle_ones(self):
        for yard in without_things():
            self.assertEqual((all_least(yard), first_least(yard, []), is_least(yard, [])), ([[]], [], True))
        for yard in (Ties(1, [(0, 0)] * 2), Rows([0, 0]), Lots([0], [0, 0]), Seats(1, [[], []])):
            self.assertEqual((all_least(yard), first_least(yard, [1, 0])), ([[]], []))
            self.assertEqual((is_least(yard, []), is_least(yard, [0])), (True, False))

    def test_all_is_least_where_none_is_carried(self):
        for yard in (Ties(3, [(0, 1), (1, 2)]), Rows([1, 2]), Lots([2], [0, 0]), Seats(2, [[0], [0, 1]])):
            self.assertEqual((all_least(yard), first_least(yard, [1, 0])), ([[0, 1]], [0, 1]))


class Limits(Raised, unittest.TestCase):
    def test_the_number_of_heaps_decides(self):
        for many in range(7):
            for yard in (Ties(1, [(0, 0)] * many), Rows([1] * many), Lots([1], [0] * many), Seats(1, [[0]] * many)):
                count = 2 ** many
                expected = all_least(yard)
                self.assertEqual(all_least(yard, limit=count), expected)
                self.assertEqual(all_least(yard, limit=count + 1), expected)
                self.assertEqual(all_least(yard, limit=4096), expected)
                for limit in {0, count // 2, count - 1}:
                    self.raised("TooMany", lambda: all_least(yard, limit=limit), limit=limit)

    def test_left_out(self):
        for yard in (Ties(2, [(0, 1)] * 12), Rows([1] * 12), Lots([1], [0] * 12), Seats(1, [[0]] * 12)):
            self.assertEqual(all_least(yard), [[thing] for thing in range(12)])
        for many in (13, 24):
            for yard in (Ties(2, [(0, 1)] * many), Rows([1] * many), Lots([0], [0] * many), Seats(0, [[]] * many)):
                self.raised("TooMany", all_least, yard, limit=4096)
                self.raised("TooMany", lambda: all_least(yard, limit=4096), limit=4096)

    def test_by_its_name_alone(self):
        with self.assertRaises(TypeError):
            all_least(Rows([1]), 4096)


class Refused(Raised, unittest.TestCase):
    def test_no_heap(self):
        for yards, many in ((one_of_each(), 4), (without_things(), 0), (full_yards()[::5], 24)):
            for yard in yards:
                for wrong in no_heaps(many):
                    self.raised("NoHeap", is_least, yard, wrong)

    def test_no_order(self):
        for yards, many in ((one_of_each(), 4), (without_things(), 0), (full_yards()[::5], 24)):
            for yard in yards:
                for wrong in no_orders(many):
                    self.raised("NoOrder", first_least, yard, wrong)

    def test_not_least(self):
        for yard in one_of_each():
            for wrong in no_heaps(4) + [[], [0], [0, 1], [0, 3], [0, 1, 2], [2, 0, 3], [3, 2, 1, 0], (0, 2)]:
                for thing in (0, 1, 3, None):
                    self.raised("NotLeast", exchange, yard, wrong, [1, 2], thing)
                    self.raised("NotLeast", exchange, yard, [0, 2], wrong, thing)
                self.raised("NotLeast", exchange, yard, wrong, wrong, 0)
        for yard in without_things():
            for wrong in no_heaps(0):
                self.raised("NotLeast", exchange, yard, wrong, [], 0)
                self.raised("NotLeast", exchange, yard, [], wrong, 0)

    def test_a_thing_that_is_not_in_the_first_alone(self):
        for yard in one_of_each():
            for wrong in no_things(4) + [1, 2, 3]:
                self.raised("NoThing", exchange, yard, [2, 0], [1, 2], wrong, who=wrong)
            for wrong in no_things(4) + [0, 1, 2, 3]:
                self.raised("NoThing", exchange, yard, [2, 0], [0, 2], wrong, who=wrong)
            for wrong in no_things(4) + [0, 2, 3]:
                self.raised("NoThing", exchange, yard, [2, 1], [0, 2], wrong, who=wrong)
        for yard in without_things():
            for wrong in no_things(0) + [0]:
                self.raised("NoThing", exchange, yard, [], [], wrong, who=wrong)


class Alone(unittest.TestCase):
    def test_by_names(self):
        yard = Rows([5, 3, 6])
        self.assertIs(is_least(heap=[1, 0], yard=yard), True)
        self.assertEqual(first_least(order=[2, 1, 0], yard=yard), [1, 2])
        self.assertEqual(exchange(thing=0, other=[1, 2], one=[0, 1], yard=yard), 2)
        self.assertEqual(all_least(yard=yard, limit=8), [[0, 1], [0, 2], [1, 2]])

    def test_what_is_handed_in_stays(self):
        for yard in one_of_each():
            for lists in ([[2, 0], [1, 2]], [[3, 1, 0, 2], [0, 0]], [[], [[0], None]]):
                kept, shown = copy.deepcopy(lists), repr(yard)
                for call in (lambda: is_least(yard, lists[0]), lambda: first_least(yard, lists[0]),
                             lambda: exchange(yard, lists[0], lists[1], 0)):
                    try:
                        call()
                    except errors.YardError:
                        pass
                    self.assertEqual((lists, repr(yard)), (kept, shown))

    def test_told_lists_are_the_askers_own(self):
        for yard in one_of_each() + [Pairs()]:
            told, again = all_least(yard), all_least(yard)
            kept = copy.deepcopy(told)
            self.assertEqual(len({id(heap) for heap in told + again}), 2 * len(kept))
            told[0].append(9)
            told.pop()
            self.assertEqual((again, all_least(yard)), (kept, kept))
            order = yard.things()
            told, again = first_least(yard, order), first_least(yard, order)
            kept = list(told)
            self.assertIsNot(told, again)
            told.clear()
            order.reverse()
            self.assertEqual((again, first_least(yard, yard.things())), (kept, kept))


if __name__ == "__main__":
    unittest.main()
