"""Rings, fences, least fences, and which one is told of a heap and a thing: points [14] and [15]."""

import copy
import random
import unittest

from anything import no_heaps, no_things
from refusals import Raised
from second import full_yards, second_worth, without_things
from words import one_of_each, some_words
from noaslong import errors
from noaslong.carrying import carries
from noaslong.lots import Lots
from noaslong.rings import fence_with, is_fence, is_least_fence, is_ring, ring_with
from noaslong.rows import Rows
from noaslong.seats import Seats
from noaslong.ties import Ties

ARE = (is_ring, is_fence, is_least_fence)
WITH = (ring_with, fence_with)


class ByWords(unittest.TestCase):
    def test_all_heaps(self):
        for words in some_words():
            for heap in words.heaps:
                told = [call(words.yard, list(heap)) for call in ARE]
                expected = [words.is_ring(heap), words.is_fence(heap), words.is_least_fence(heap)]
                self.assertEqual(told, expected, (words.yard, heap))
                self.assertEqual({type(truth) for truth in told}, {bool})

    def test_just_one_of_both_is_told(self):
        for words in some_words():
            for heap in words.heaps:
                for thing in words.things - heap:
                    ring = ring_with(words.yard, list(heap), thing)
                    fence = fence_with(words.yard, list(heap), thing)
                    self.assertEqual((ring is None, fence is None),
                                     (not words.carries(heap, thing), words.carries(heap, thing)))
                    if ring is not None:
                        self.assertTrue(words.is_ring(ring) and thing in ring and {*ring} <= {*heap, thing})
                        self.assertEqual(ring, sorted(ring))
                    else:
                        self.assertTrue(words.is_least_fence(fence) and thing in fence and not {*fence} & heap)
                        self.assertEqual(fence, sorted(fence))

    def test_a_free_heap_and_a_thing_have_one_ring_alone(self):
        for words in some_words():
            for heap in words.heaps:
                for thing in words.things - heap:
                    if words.is_free(heap) and words.carries(heap, thing):
                        rings = [sorted(ring) for ring in words.rings if ring <= heap | {thing}]
                        self.assertEqual([ring_with(words.yard, list(heap), thing)], rings)

    def test_of_24_things(self):
        dice = random.Random(31)
        for yard in full_yards():
            for at in range(3):
                order = dice.sample(range(24), 24)
                heap, thing = order[:dice.randrange(24)], order[-1]
                ring, fence = ring_with(yard, heap, thing), fence_with(yard, heap, thing)
                self.assertEqual((ring is not None, fence is None), (carries(yard, heap, thing),) * 2)
                if ring is not None:
                    self.assertTrue(is_ring(yard, ring) and thing in ring and {*ring} <= {*heap, thing})
                    self.assertEqual(second_worth(yard, ring), len(ring) - 1)
                else:
                    self.assertTrue(is_least_fence(yard, fence) and thing in fence and not {*fence} & {*heap})
                    out = sorted({*range(24)} - {*fence})
                    self.assertEqual(second_worth(yard, out), second_worth(yard, range(24)) - 1)


class Edges(unittest.TestCase):
    def test_ordinary_ones(self):
        square = Ties(4, [(0, 1), (1, 2), (2, 3), (3, 0), (0, 2)])
        self.assertEqual([is_ring(square, heap) for heap in ([0, 1, 4], [3, 2, 1, 0], [0, 1], [0, 1, 2, 3, 4])],
                         [True, True, False, False])
        self.assertEqual([is_least_fence(square, heap) for heap in ([0, 1], [0, 3, 4], [0, 1, 2], [2, 0])],
                         [True, True, False, False])
        self.assertEqual([is_fence(square, heap) for heap in ([0, 1, 2], [2, 0], [4])], [True, False, False])
        self.assertEqual(ring_with(Rows([5, 3, 9, 6]), [2, 0, 1], 3), [0, 1, 3])
        self.assertEqual(fence_with(Lots([1, 2], [0, 0, 1, 1, 1]), [3, 0], 4), [2, 4])
        self.assertEqual(fence_with(Seats(2, [[0], [0, 1], [1]]), [0], 2), [1, 2])

    def test_of_nothing(self):
        for yard in one_of_each() + without_things():
            self.assertEqual([call(yard, []) for call in ARE], [False, False, False])

    def test_of_all(self):
        for yard in one_of_each():
            self.assertEqual([call(yard, [3, 2, 1, 0]) for call in ARE], [False, True, False])

    def test_an_idle_thing_is_a_ring_and_in_no_least_fence(self):
        for yard in one_of_each():
            self.assertEqual([is_ring(yard, heap) for heap in ([3], [0, 3], [2])], [True, False, False])
            self.assertEqual((ring_with(yard, [], 3), ring_with(yard, [2, 1, 0], 3)), ([3], [3]))
            self.assertEqual((fence_with(yard, [], 3), fence_with(yard, [2, 1, 0], 3)), (None, None))
            self.assertEqual([call(yard, [2, 3]) for call in (is_fence, is_least_fence)], [True, False])

    def test_alike_things_are_a_ring_and_stand_in_one_fence(self):
        for yard in one_of_each():
            self.assertEqual((is_ring(yard, [1, 0]), ring_with(yard, [3, 0], 1)), (True, [0, 1]))
            self.assertEqual([is_fence(yard, heap) for heap in ([0], [1])], [False, False])
        for yard in (Ties(3, [(0, 1), (1, 0), (1, 2)]), Rows([5, 5, 3]), Lots([1, 2], [0, 0, 1])):
            self.assertEqual((fence_with(yard, [2], 0), fence_with(yard, [2], 1)), ([0, 1], [0, 1]))

    def test_a_ring_in_a_larger_heap_is_found(self):
        self.assertEqual(ring_with(Lots([2, 24], [0, 1, 1, 0, 0, 1]), [0, 1, 2, 3, 5], 4), [0, 3, 4])
        self.assertEqual(ring_with(Rows([1, 2, 4, 8, 6]), [3, 2, 1, 0], 4), [1, 2, 4])

    def test_of_a_heap_of_nothing_and_of_all_others(self):
        for yard in one_of_each():
            self.assertEqual([ring_with(yard, [], thing) for thing in (0, 1, 2)], [None] * 3)
            for thing in range(3):
                fence = fence_with(yard, [], thing)
                self.assertTrue(is_least_fence(yard, fence) and thing in fence)
        self.assertEqual(fence_with(Rows([1, 2, 4]), [2, 0], 1), [1])
        self.assertEqual(fence_with(Rows([1]), [], 0), [0])

    def test_told_again_as_told(self):
        for words in some_words()[::5]:
            for heap in words.heaps:
                for thing in words.things - heap:
                    for call in WITH:
                        self.assertEqual(call(words.yard, list(heap), thing), call(words.yard, list(heap), thing))


class Refused(Raised, unittest.TestCase):
    def test_no_heap(self):
        for yards, many in ((one_of_each(), 4), (without_things(), 0), (full_yards()[::5], 24)):
            for yard in yards:
                for wrong in no_heaps(many):
                    for call in ARE:
                        self.raised("NoHeap", call, yard, wrong)
                    for call in WITH:
                        self.raised("NoHeap", call, yard, wrong, 0)

    def test_no_thing(self):
        for yard in one_of_each():
            for wrong in no_things(4):
                for call in WITH:
                    for heap in ([], [1], [0, 1, 2, 3]):
                        self.raised("NoThing", call, yard, heap, wrong, who=wrong)
        for yard in without_things():
            for wrong in no_things(0) + [0]:
                for call in WITH:
                    self.raised("NoThing", call, yard, [], wrong, who=wrong)

    def test_a_thing_in_the_heap(self):
        for yard in one_of_each():
            for heap, thing in (([0], 0), ([3], 3), ([2, 1], 1), ([3, 2, 1, 0], 2)):
                for call in WITH:
                    self.raised("NoHeap", call, yard, heap, thing)

    def test_no_heap_goes_first_and_then_no_thing(self):
        for yard in one_of_each():
            for call in WITH:
                for heap in (None, (0,), [0, 0], [4], [True], "0"):
                    for thing in (None, True, 9, -1, "0", [0], 0):
                        self.raised("NoHeap", call, yard, heap, thing)
                # True and False are no things, though Python finds them in such a heap.
                for thing in (True, False):
                    self.raised("NoThing", call, yard, [0, 1], thing, who=thing)


class Alone(unittest.TestCase):
    def test_by_names(self):
        yard = Rows([5, 3, 6])
        self.assertEqual([call(heap=[2, 0, 1], yard=yard) for call in ARE], [True, True, False])
        self.assertEqual(ring_with(thing=2, heap=[0, 1], yard=yard), [0, 1, 2])
        self.assertEqual(fence_with(thing=2, heap=[0], yard=yard), [1, 2])

    def test_what_is_handed_in_stays(self):
        for yard in one_of_each():
            for heap in ([2, 0], [], [1, 1], [[0], None]):
                kept, shown = copy.deepcopy(heap), repr(yard)
                for call in (*ARE, lambda yard, heap: ring_with(yard, heap, 3),
                             lambda yard, heap: fence_with(yard, heap, 1)):
                    try:
                        call(yard, heap)
                    except errors.NoHeap:
                        pass
                    self.assertEqual((heap, repr(yard)), (kept, shown))

    def test_told_heaps_are_the_askers_own(self):
        for yard in one_of_each():
            for call, heap, thing in ((ring_with, [2, 0], 1), (ring_with, [], 3), (fence_with, [2], 0)):
                told, again = call(yard, heap, thing), call(yard, heap, thing)
                kept = list(told)
                self.assertIsNot(told, again)
                told.append(9)
                heap.append(3)
                self.assertEqual(again, kept)
                heap.pop()
                self.assertEqual(call(yard, heap, thing), kept)


if __name__ == "__main__":
    unittest.main()
