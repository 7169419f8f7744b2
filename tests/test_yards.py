"""What all yards have, seen at a sort of yards that stands here alone."""

import unittest

from noaslong import errors
from noaslong.heaps import rising_heap
from noaslong.yards import Yard


class Plain(Yard):
    """Each heap is worth its length."""

    def __init__(self, count):
        self.count = count

    def many(self):
        return self.count

    def worth(self, heap):
        return len(rising_heap(heap, self.count))

    def __repr__(self):
        return f"Plain({self.count})"


class Alike:
    """Looks like a yard, and is none."""

    def __repr__(self):
        return "Plain(3)"


class Yards(unittest.TestCase):
    def test_methods_stand_in_the_class_itself(self):
        for name in ("many", "things", "worth", "whole", "__eq__", "__len__", "__repr__"):
            self.assertIn(name, vars(Yard))

    def test_a_sort_tells_its_number_and_worth(self):
        for call in (lambda: Yard().many(), lambda: Yard().worth([])):
            with self.assertRaises(NotImplementedError):
                call()

    def test_things_length_and_whole(self):
        for many in range(25):
            yard = Plain(many)
            self.assertEqual(yard.things(), list(range(many)))
            self.assertEqual((len(yard), yard.whole()), (many, many))

    def test_heaps_rise_and_are_the_askers_own(self):
        yard = Plain(3)
        told = yard.things()
        told.append(7)
        self.assertEqual(yard.things(), [0, 1, 2])

    def test_equal(self):
        self.assertTrue(Plain(3) == Plain(3))
        self.assertFalse(Plain(3) != Plain(3))
        for other in (Plain(2), Yard(), None, 3, "Plain(3)", [0, 1, 2], Plain, Alike()):
            self.assertFalse(Plain(3) == other)
            self.assertTrue(Plain(3) != other)

    def test_no_heap(self):
        for wrong in (None, (0,), [0, 0], [3], [-1], [True], "0", [[0]]):
            with self.assertRaises(errors.NoHeap):
                Plain(3).worth(wrong)


if __name__ == "__main__":
    unittest.main()
