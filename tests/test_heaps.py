"""Heaps: what is one, two of them together, all of them in order."""

import copy
import itertools
import unittest

from anything import no_heaps, no_things, no_wholes
from noaslong import errors
from noaslong.heaps import MOST_HEAPS, MOST_THINGS, all_heaps, but, common, is_heap, joined
from noaslong.kinds import is_whole


def second_way(many):
    """All heaps of so many things, by another way than the program's."""
    return [list(heap) for size in range(many + 1) for heap in itertools.combinations(range(many), size)]


class Numbers(unittest.TestCase):
    def test_limits(self):
        self.assertEqual((MOST_THINGS, MOST_HEAPS), (24, 4096))

    def test_whole_numbers(self):
        for number in range(-3, 9):
            self.assertIs(is_whole(number, 0, 5), 0 <= number <= 5)
        for wrong in no_wholes():
            self.assertIs(is_whole(wrong, -100, 100), False)


class IsHeap(unittest.TestCase):
    def test_all_lists_of_small_numbers(self):
        for many in range(5):
            for length in range(4):
                for things in itertools.product(range(-1, 6), repeat=length):
                    expected = len(set(things)) == length and all(0 <= thing < many for thing in things)
                    self.assertIs(is_heap(list(things), many), expected, (things, many))

    def test_in_any_order(self):
        for things in itertools.permutations(range(4)):
            self.assertIs(is_heap(list(things), 4), True)
            self.assertIs(is_heap(list(things), 3), False)

    def test_heap_of_nothing(self):
        for many in range(25):
            self.assertIs(is_heap([], many), True)

    def test_all_things(self):
        for many in range(25):
            self.assertIs(is_heap(list(range(many)), many), True)
            self.assertIs(is_heap(list(range(many))[::-1], many), True)
            self.assertIs(is_heap(list(range(many + 1)), many), False)

    def test_numbers_at_the_edges(self):
        for many in range(1, 25):
            self.assertIs(is_heap([many - 1], many), True)
            for wrong in (many, many + 1, -1, -many, 24, 10 ** 29):
                self.assertIs(is_heap([wrong], many), False)

    def test_true_and_false_are_no_things(self):
        for wrong in ([True], [False], [0, True], [False, 1], [True, False], [1, True]):
            self.assertIs(is_heap(wrong, 24), False)

    def test_a_thing_twice(self):
        for wrong in ([0, 0], [3, 1, 3], [2, 2, 2], list(range(24)) + [23]):
            self.assertIs(is_heap(wrong, 24), False)

    def test_of_anything(self):
        for many in (0, 1, 2, 5, 23, 24):
            for wrong in no_heaps(many):
                self.assertIs(is_heap(wrong, many), False)

    def test_no_yard_is_of_other_numbers(self):
        for many in [-1, -24, 25, 26, 100] + no_wholes():
            self.assertIs(is_heap([], many), False)
            self.assertIs(is_heap([0], many), False)

    def test_by_names(self):
        self.assertIs(is_heap(things=[1, 0], many=2), True)
        self.assertIs(is_heap([1, 2], many=2), False)
        self.assertIs(is_heap(many=3, things=[1, 2]), True)

    def test_what_is_handed_in_stays(self):
        for things in ([2, 0, 1], [2, 2], [[1], None], []):
            kept = copy.deepcopy(things)
            is_heap(things, 3)
            self.assertEqual(things, kept)


class TwoHeaps(unittest.TestCase):
    def test_all_small_ones_in_any_order(self):
        heaps = [list(order) for heap in second_way(4) for order in itertools.permutations(heap)]
        for one in heaps:
            for other in heaps:
                self.assertEqual(joined(one, other), sorted({*one, *other}))
                self.assertEqual(common(one, other), sorted({*one} & {*other}))
                self.assertEqual(but(one, other), sorted({*one} - {*other}))

    def test_of_nothing_and_of_all(self):
        every = list(range(24))
        for one, other, expected in (
            ([], [], ([], [], [])),
            (every, [], (every, [], every)),
            ([], every, (every, [], [])),
            (every[::-1], every, (every, every, [])),
            ([23, 0], [23, 5], ([0, 5, 23], [23], [0])),
        ):
            self.assertEqual((joined(one, other), common(one, other), but(one, other)), expected)

    def test_by_names(self):
        self.assertEqual(joined(one=[1], other=[0]), [0, 1])
        self.assertEqual(common(other=[0, 1], one=[1, 2]), [1])
        self.assertEqual(but(other=[0, 1], one=[1, 2]), [2])

    def test_what_is_no_heap_is_refused(self):
        for call in (joined, common, but):
            for wrong in no_heaps(24):
                for one, other in ((wrong, [0]), ([0], wrong), (wrong, []), ([], wrong), (wrong, wrong)):
                    with self.assertRaises(errors.NoHeap) as caught:
                        call(one, other)
                    self.assertIsInstance(caught.exception, errors.YardError)
                    self.assertNotIsInstance(caught.exception, LookupError)

    def test_what_is_handed_in_stays(self):
        one, other = [5, 2, 3], [3, 1, 2]
        for call in (joined, common, but):
            call(one, other)
            self.assertEqual((one, other), ([5, 2, 3], [3, 1, 2]))

    def test_told_heaps_are_the_askers_own(self):
        one, other = [1, 2], [2, 3]
        for call, first, second in ((joined, one, []), (joined, [], one), (common, one, one), (but, one, [])):
            told = call(first, second)
            expected = list(told)
            told.append("more")
            self.assertEqual(call(first, second), expected)
        self.assertEqual((one, other), ([1, 2], [2, 3]))

    def test_what_is_done_later_has_no_bearing(self):
        one, other = [1, 2], [2, 3]
        told = [joined(one, other), common(one, other), but(one, other)]
        one.clear()
        other.append(7)
        self.assertEqual(told, [[1, 2, 3], [2], [1]])


class AllHeaps(unittest.TestCase):
    def test_order_as_told(self):
        self.assertEqual(all_heaps(0), [[]])
        self.assertEqual(all_heaps(1), [[], [0]])
        self.assertEqual(all_heaps(3), [[], [0], [1], [2], [0, 1], [0, 2], [1, 2], [0, 1, 2]])

    def test_a_second_way(self):
        for many in range(13):
            self.assertEqual(all_heaps(many), second_way(many))

    def test_limit_at_its_edges(self):
        for many in range(13):
            number = len(second_way(many))
            self.assertEqual(len(all_heaps(many, limit=number)), number)
            if number < 4096:
                self.assertEqual(len(all_heaps(many, limit=number + 1)), number)
            with self.assertRaises(errors.TooMany) as caught:
                all_heaps(many, limit=number - 1)
            self.assertEqual(caught.exception.limit, number - 1)

    def test_limit_that_is_not_handed_in(self):
        self.assertEqual(len(all_heaps(12)), 4096)
        for many in range(13, 25):
            with self.assertRaises(errors.TooMany) as caught:
                all_heaps(many)
            self.assertEqual(caught.exception.limit, 4096)

    def test_too_many_is_of_its_classes_alone(self):
        for limit in (0, 1, 100, 4096):
            with self.assertRaises(ArithmeticError) as caught:
                all_heaps(24, limit=limit)
            self.assertIsInstance(caught.exception, errors.TooMany)
            self.assertNotIsInstance(caught.exception, (ValueError, LookupError, RuntimeError))
            self.assertEqual(caught.exception.limit, limit)

    def test_no_heaps_are_let(self):
        with self.assertRaises(errors.TooMany) as caught:
            all_heaps(0, limit=0)
        self.assertEqual(caught.exception.limit, 0)

    def test_somewhat_beyond_the_limits(self):
        self.assertEqual(len(all_heaps(13, limit=8192)), 8192)
        for many in (25, 26, 100, 10 ** 29):
            with self.assertRaises(errors.TooMany):
                all_heaps(many)

    def test_by_names(self):
        self.assertEqual(all_heaps(many=1, limit=2), [[], [0]])
        self.assertEqual(all_heaps(limit=4096, many=1), [[], [0]])
        with self.assertRaises(TypeError):
            all_heaps(1, 2)

    def test_told_lists_are_the_askers_own(self):
        for many in (0, 1, 4):
            told = all_heaps(many)
            self.assertEqual(len({id(heap) for heap in told}), len(told))
            for heap in told:
                heap.append("more")
            told.clear()
            self.assertEqual(all_heaps(many), second_way(many))

    def test_each_is_a_heap(self):
        for many in range(7):
            for heap in all_heaps(many):
                self.assertIs(is_heap(heap, many), True)


class Anything(unittest.TestCase):
    """The tests' own lists of wrong values would be of no use if they held right ones."""

    def test_wrong_values_are_wrong(self):
        for thing in no_things(24):
            right = isinstance(thing, int) and not isinstance(thing, bool) and 0 <= thing < 24
            self.assertIs(right, False)


if __name__ == "__main__":
    unittest.main()
