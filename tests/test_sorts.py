"""What is promised of yards of all four sorts."""

import copy
import itertools
import random
import unittest

from anything import Equal, Odd, no_heaps, no_lists
from second import full_yards, heaps_of, second_worth, small_yards, some_heaps, without_things
from noaslong import errors
from noaslong.lots import Lots
from noaslong.rows import Rows
from noaslong.seats import Seats
from noaslong.ties import Ties
from noaslong.yards import Yard

METHODS = ("many", "things", "worth", "whole", "__init__", "__eq__", "__len__", "__repr__")
LISTED = ((Ties, ("places", "pairs")), (Rows, ("rows",)), (Lots, ("tops", "lots")), (Seats, ("seats", "rows")))


def one_of_each():
    """A yard of each sort, of three things."""
    return [Ties(3, [(0, 1), (1, 0), (2, 2)]), Rows([5, 3, 6]), Lots([1, 2], [0, 0, 1]), Seats(2, [[1, 0], [], [1]])]


class Sorts(unittest.TestCase):
    def test_each_is_a_yard(self):
        for sort, names in LISTED:
            self.assertTrue(issubclass(sort, Yard))
        for yard in one_of_each():
            self.assertIsInstance(yard, Yard)

    def test_none_is_of_another_sort(self):
        for yard in one_of_each():
            self.assertEqual(sum(isinstance(yard, sort) for sort, names in LISTED), 1)

    def test_methods_stand_in_the_class_itself(self):
        for sort, names in LISTED:
            for name in METHODS + names:
                self.assertIn(name, vars(sort), (sort, name))

    def test_many_things_and_length(self):
        for yard in small_yards() + full_yards() + without_things():
            self.assertEqual(yard.things(), list(range(yard.many())))
            self.assertEqual(len(yard), yard.many())
        self.assertEqual([yard.many() for yard in one_of_each()], [3, 3, 3, 3])
        self.assertEqual({yard.many() for yard in full_yards()}, {24})

    def test_without_things(self):
        for yard in without_things():
            self.assertEqual((yard.many(), yard.things(), len(yard), yard.worth([]), yard.whole()), (0, [], 0, 0, 0))


class Worth(unittest.TestCase):
    def test_all_heaps_of_small_yards(self):
        for yard in small_yards():
            for heap in heaps_of(yard.many()):
                self.assertEqual(yard.worth(heap), second_worth(yard, heap), (yard, heap))

    def test_yards_of_24_things(self):
        for yard in full_yards():
            for heap in some_heaps(24, 12, 5):
                self.assertEqual(yard.worth(heap), second_worth(yard, heap), (yard, heap))

    def test_whole(self):
        for yard in small_yards() + full_yards() + without_things():
            self.assertEqual(yard.whole(), yard.worth(yard.things()))

    def test_in_any_order(self):
        dice = random.Random(3)
        for yard in small_yards()[::7] + full_yards():
            heap = yard.things()
            dice.shuffle(heap)
            for end in range(len(heap) + 1):
                self.assertEqual(yard.worth(heap[:end]), yard.worth(sorted(heap[:end])))
        for yard in one_of_each():
            for heap in itertools.permutations(range(3)):
                self.assertEqual(yard.worth(list(heap)), yard.whole())

    def test_it_is_a_whole_number(self):
        for yard in one_of_each() + without_things() + full_yards():
            for worth in (yard.worth([]), yard.worth(yard.things()), yard.whole()):
                self.assertIs(type(worth), int)

    def test_by_name(self):
        for yard in one_of_each():
            self.assertEqual(yard.worth(heap=[2, 0]), yard.worth([0, 2]))

    def test_told_again_as_told(self):
        for yard in one_of_each():
            told = [yard.worth(heap) for heap in heaps_of(3)]
            self.assertEqual([yard.worth(heap) for heap in heaps_of(3)], told)
            self.assertEqual([yard.worth(heap) for heap in heaps_of(3)[::-1]], told[::-1])


class NoHeap(unittest.TestCase):
    def test_of_anything(self):
        for yard in one_of_each():
            for wrong in no_heaps(3):
                with self.assertRaises(errors.NoHeap) as caught:
                    yard.worth(wrong)
                self.assertNotIsInstance(caught.exception, (errors.NoYard, LookupError))

    def test_where_there_are_no_things_or_24(self):
        for yards, many in ((without_things(), 0), (full_yards(), 24)):
            for yard in yards:
                for wrong in no_heaps(many):
                    with self.assertRaises(errors.NoHeap):
                        yard.worth(wrong)

    def test_what_is_refused_changes_nothing(self):
        for yard, again in zip(one_of_each(), one_of_each()):
            for wrong in ([3], [0, 0], None):
                with self.assertRaises(errors.NoHeap):
                    yard.worth(wrong)
                self.assertTrue(yard == again)
                for heap in heaps_of(3):
                    self.assertEqual(yard.worth(heap), again.worth(heap))

    def test_what_is_handed_in_stays(self):
        for yard in one_of_each():
            for heap in ([2, 0, 1], [1], [], [2, 2], [[0], None]):
                kept = copy.deepcopy(heap)
                try:
                    yard.worth(heap)
                except errors.NoHeap:
                    pass
                self.assertEqual(heap, kept)


class WorthsTogether(unittest.TestCase):
    """Point [12]."""

    def test_nothing_and_a_thing_more(self):
        for yard in small_yards():
            self.assertEqual(yard.worth([]), 0)
            for heap in heaps_of(yard.many()):
                for thing in set(yard.things()) - set(heap):
                    self.assertIn(yard.worth(heap + [thing]) - yard.worth(heap), (0, 1))

    def test_two_heaps_joined_and_common(self):
        for yard in [yard for yard in small_yards() if yard.many() <= 4][::3]:
            worth = {tuple(heap): yard.worth(heap) for heap in heaps_of(yard.many())}
            for one, other in itertools.product(worth, repeat=2):
                either, both = tuple(sorted({*one, *other})), tuple(sorted({*one} & {*other}))
                self.assertGreaterEqual(worth[one] + worth[other], worth[either] + worth[both], (yard, one, other))

    def test_of_24_things(self):
        for yard in full_yards():
            self.assertEqual(yard.worth([]), 0)
            heaps = some_heaps(24, 8, 6)
            for one, other in itertools.combinations(heaps, 2):
                either, both = sorted({*one, *other}), sorted({*one} & {*other})
                together = yard.worth(one) + yard.worth(other)
                self.assertGreaterEqual(together, yard.worth(either) + yard.worth(both))
            for heap in heaps:
                for thing in set(range(24)) - set(heap):
                    self.assertIn(yard.worth(heap + [thing]) - yard.worth(heap), (0, 1))


class Equals(unittest.TestCase):
    def test_equal_where_made_of_the_same(self):
        for yard, again in zip(one_of_each() + without_things(), one_of_each() + without_things()):
            self.assertIs(yard == again, True)
            self.assertIs(yard != again, False)

    def test_equal_just_where_the_arguments_are(self):
        yards = small_yards()[::5]
        for one in yards:
            for other in yards:
                self.assertIs(one == other, repr(one) == repr(other))
                self.assertIs(one != other, repr(one) != repr(other))

    def test_no_two_sorts_are_equal(self):
        yards = [Ties(1, []), Rows([]), Lots([], []), Seats(0, []), Lots([1], []), Seats(1, [])]
        for one, other in itertools.permutations(yards, 2):
            self.assertIs(one == other, False)
            self.assertIs(one != other, True)

    def test_unequal_to_anything_else(self):
        for yard in one_of_each() + without_things():
            others = no_lists() + [Yard(), repr(yard), yard.things(), [yard], (yard,), Ties, vars(yard)]
            for other in others:
                self.assertIs(yard == other, False)
                self.assertIs(yard != other, True)
            for other in (None, 0, "", repr(yard), [], (), object()):
                self.assertIs(other == yard, False)
                self.assertIs(other != yard, True)
            self.assertIs(yard == Odd(), False)
            self.assertIs(yard == Equal(), False)


class Alone(unittest.TestCase):
    def test_told_heaps_are_the_askers_own(self):
        for yard, again in zip(one_of_each(), one_of_each()):
            told = yard.things()
            told.reverse()
            told.append(9)
            self.assertEqual(yard.things(), [0, 1, 2])
            self.assertIsNot(yard.things(), yard.things())
            self.assertTrue(yard == again)

    def test_two_yards_know_nothing_of_one_another(self):
        for (sort, names), yard in zip(LISTED, one_of_each()):
            before = repr(yard)
            arguments = [getattr(yard, name)() for name in names]
            arguments[-1].pop()
            other = sort(*arguments)
            self.assertEqual((yard.many(), other.many(), repr(yard)), (3, 2, before))
            self.assertEqual(yard.things(), [0, 1, 2])
            self.assertEqual(other.things(), [0, 1])

    def test_made_again_of_what_they_tell(self):
        for yard in small_yards() + full_yards() + without_things():
            names = dict(LISTED)[type(yard)]
            arguments = {name: getattr(yard, name)() for name in names}
            self.assertTrue(type(yard)(**arguments) == yard)
            self.assertTrue(type(yard)(*arguments.values()) == yard)

    def test_repr_is_what_makes_it(self):
        names = {"Ties": Ties, "Rows": Rows, "Lots": Lots, "Seats": Seats}
        for yard in small_yards() + full_yards() + without_things():
            self.assertTrue(eval(repr(yard), names) == yard)


if __name__ == "__main__":
    unittest.main()
