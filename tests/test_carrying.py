"""What a heap carries, whether it fulfils or is free, and what is idle: points [12] and [13]."""

import copy
import itertools
import unittest

from anything import no_heaps, no_things
from refusals import Raised
from second import full_yards, second_worth, some_heaps, without_things
from words import one_of_each, some_words
from noaslong import errors
from noaslong.carrying import carried, carries, fulfils, is_free, is_idle
from noaslong.lots import Lots
from noaslong.rows import Rows
from noaslong.seats import Seats
from noaslong.ties import Ties

OF_A_HEAP = (fulfils, is_free, carried)


class ByWords(unittest.TestCase):
    def test_all_heaps_and_things(self):
        for words in some_words():
            for heap in words.heaps:
                told = [thing for thing in words.things if carries(words.yard, list(heap), thing)]
                self.assertEqual(sorted(told), words.carried(heap), (words.yard, heap))

    def test_carried(self):
        for words in some_words():
            for heap in words.heaps:
                self.assertEqual(carried(words.yard, list(heap)), words.carried(heap), (words.yard, heap))

    def test_fulfils_and_is_free(self):
        for words in some_words():
            for heap in words.heaps:
                self.assertIs(fulfils(words.yard, list(heap)), words.fulfils(heap), (words.yard, heap))
                self.assertIs(is_free(words.yard, list(heap)), words.is_free(heap), (words.yard, heap))

    def test_is_idle(self):
        for words in some_words():
            for thing in words.things:
                self.assertIs(is_idle(words.yard, thing), words.is_idle(thing), (words.yard, thing))

    def test_of_24_things(self):
        for yard in full_yards():
            whole = second_worth(yard, range(24))
            for heap in some_heaps(24, 2, 21):
                worth, told = second_worth(yard, heap), carried(yard, heap)
                for thing in (0, 11, 23):
                    expected = second_worth(yard, sorted({*heap, thing})) == worth
                    self.assertEqual((carries(yard, heap, thing), thing in told), (expected, expected))
                self.assertEqual(told, [thing for thing in range(24) if carries(yard, heap, thing)])
                self.assertEqual((fulfils(yard, heap), is_free(yard, heap)), (worth == whole, worth == len(heap)))


class Edges(unittest.TestCase):
    def test_ordinary_ones(self):
        triangle = Ties(3, [(0, 1), (1, 2), (2, 0)])
        self.assertEqual((carries(triangle, [0, 1], 2), carries(triangle, [0], 2)), (True, False))
        self.assertEqual((carries(Rows([5, 3, 6]), [1, 0], 2), carries(Rows([5, 3, 7]), [1, 0], 2)), (True, False))
        lots = Lots([1, 2], [0, 0, 1, 1])
        self.assertEqual((carries(lots, [0], 1), carries(lots, [0, 2], 3)), (True, False))
        seats = Seats(2, [[0], [0, 1], [1], [0]])
        self.assertEqual((carries(seats, [0, 1], 2), carries(seats, [0], 2), carries(seats, [0], 3)),
                         (True, False, True))

    def test_a_heap_carries_its_own(self):
        for yard in one_of_each():
            for heap in ([0], [3, 1], [2, 1, 0], [3, 2, 1, 0]):
                self.assertEqual([carries(yard, heap, thing) for thing in heap], [True] * len(heap))
                self.assertLessEqual(set(heap), set(carried(yard, heap)))

    def test_alike_things_carry_one_another(self):
        for yard in one_of_each():
            self.assertEqual((carries(yard, [0], 1), carries(yard, [1], 0)), (True, True))
            self.assertEqual((is_free(yard, [0]), is_free(yard, [1]), is_free(yard, [1, 0])), (True, True, False))

    def test_idle_things(self):
        for yard in one_of_each():
            self.assertEqual([is_idle(yard, thing) for thing in range(4)], [False, False, False, True])
            self.assertEqual(carried(yard, []), [3])
            self.assertEqual((is_free(yard, [3]), is_free(yard, [3, 0])), (False, False))

    def test_of_nothing_and_of_all(self):
        for yard in one_of_each():
            self.assertEqual((fulfils(yard, []), fulfils(yard, [3, 1, 0, 2])), (False, True))
            self.assertEqual((is_free(yard, []), is_free(yard, [3, 1, 0, 2])), (True, False))
            self.assertEqual(carried(yard, [3, 1, 0, 2]), [0, 1, 2, 3])

    def test_where_there_are_no_things(self):
        for yard in without_things():
            self.assertEqual((fulfils(yard, []), is_free(yard, []), carried(yard, [])), (True, True, []))

    def test_where_all_are_idle_nothing_fulfils(self):
        for yard in (Ties(1, [(0, 0)] * 2), Rows([0, 0]), Lots([0], [0, 0]), Seats(1, [[], []])):
            self.assertEqual((fulfils(yard, []), is_idle(yard, 1), carried(yard, [])), (True, True, [0, 1]))

    def test_in_any_order(self):
        for yard in one_of_each():
            for order in itertools.permutations([0, 2, 3]):
                heap = list(order)
                self.assertEqual(carried(yard, heap), carried(yard, [0, 2, 3]))
                self.assertEqual((fulfils(yard, heap), is_free(yard, heap)), (True, False))


class Refused(Raised, unittest.TestCase):
    def test_no_heap(self):
        for yard in one_of_each():
            for wrong in no_heaps(4):
                for call in OF_A_HEAP:
                    self.raised("NoHeap", call, yard, wrong)
                self.raised("NoHeap", carries, yard, wrong, 0)

    def test_no_heap_where_there_are_no_things_or_24(self):
        for yards, many in ((without_things(), 0), (full_yards()[::4], 24)):
            for yard in yards:
                for wrong in no_heaps(many):
                    for call in OF_A_HEAP:
                        self.raised("NoHeap", call, yard, wrong)

    def test_no_thing(self):
        for yard in one_of_each():
            for wrong in no_things(4):
                self.raised("NoThing", carries, yard, [1], wrong, who=wrong)
                self.raised("NoThing", carries, yard, [], wrong, who=wrong)
                self.raised("NoThing", is_idle, yard, wrong, who=wrong)

    def test_no_thing_where_there_are_none_or_24(self):
        for yard in without_things():
            for wrong in no_things(0) + [0, 1]:
                self.raised("NoThing", is_idle, yard, wrong, who=wrong)
                self.raised("NoThing", carries, yard, [], wrong, who=wrong)
        for yard in full_yards()[::4]:
            for wrong in no_things(24):
                self.raised("NoThing", is_idle, yard, wrong, who=wrong)

    def test_no_heap_goes_first(self):
        for yard in one_of_each() + without_things():
            for heap in (None, (0,), [0, 0], [4], [True], "0"):
                for thing in (None, True, 9, -1, "0", [0]):
                    self.raised("NoHeap", carries, yard, heap, thing)


class Alone(unittest.TestCase):
    def test_by_names(self):
        yard = Rows([5, 3, 6])
        self.assertIs(carries(thing=2, heap=[0, 1], yard=yard), True)
        self.assertIs(carries(yard, [0], thing=2), False)
        self.assertIs(fulfils(heap=[0, 2], yard=yard), True)
        self.assertIs(is_idle(thing=0, yard=yard), False)
        self.assertIs(is_free(heap=[0, 1, 2], yard=yard), False)
        self.assertEqual(carried(heap=[0, 1], yard=yard), [0, 1, 2])

    def test_what_is_handed_in_stays(self):
        for yard in one_of_each():
            for heap in ([2, 0, 1], [], [3, 3], [[0], None]):
                kept, shown = copy.deepcopy(heap), repr(yard)
                for call in (*OF_A_HEAP, lambda yard, heap: carries(yard, heap, 3)):
                    try:
                        call(yard, heap)
                    except errors.NoHeap:
                        pass
                    self.assertEqual((heap, repr(yard)), (kept, shown))

    def test_told_heaps_are_the_askers_own(self):
        for yard in one_of_each() + without_things():
            heap = yard.things()
            told = carried(yard, heap)
            again = carried(yard, heap)
            self.assertIsNot(told, again)
            self.assertIsNot(told, heap)
            told.append(7)
            heap.clear()
            self.assertEqual((again, carried(yard, yard.things())), (yard.things(), yard.things()))


if __name__ == "__main__":
    unittest.main()
