"""Lots that count up to a number."""

import unittest

from anything import no_lists, no_wholes
from refusals import Refusals
from second import heaps_of, lots_worth, small_lots
from noaslong.lots import Lots

NO_TOP = [-1, -24, 25, 26, 10 ** 29] + no_wholes()
NO_TOPS = no_lists() + [[top] for top in NO_TOP] + [[1, top] for top in NO_TOP]
NO_TOPS += [[0] * 9, [24] * 10, [None] * 9, [[1]]]


def no_lots(count):
    """What is no number of one of so many lots."""
    return [-1, -count - 1, count, count + 1, 8, 24, 10 ** 29, [0], (0,)] + no_wholes()


class Made(unittest.TestCase):
    def test_told_as_handed_in(self):
        yard = Lots([3, 0, 24], [2, 0, 1, 0])
        self.assertEqual((yard.tops(), yard.lots()), ([3, 0, 24], [2, 0, 1, 0]))

    def test_by_names(self):
        self.assertTrue(Lots(tops=[1, 2], lots=[0]) == Lots([1, 2], [0]))
        self.assertTrue(Lots(lots=[0], tops=[1, 2]) == Lots([1, 2], [0]))

    def test_edges(self):
        self.assertEqual((Lots([], []).tops(), Lots([], []).lots()), ([], []))
        eight = Lots([0, 24, 1, 2, 3, 4, 5, 6], [7, 0] * 12)
        self.assertEqual((len(eight.tops()), eight.many()), (8, 24))
        self.assertEqual(eight.whole(), 6)

    def test_repr(self):
        self.assertEqual(repr(Lots([1, 0], [0, 1, 1])), "Lots([1, 0], [0, 1, 1])")
        self.assertEqual(repr(Lots([], [])), "Lots([], [])")
        self.assertEqual(repr(Lots([24], [])), "Lots([24], [])")

    def test_equal(self):
        yard = Lots([1, 2], [0, 1])
        for other in (Lots([2, 1], [0, 1]), Lots([1, 2], [1, 0]), Lots([1, 2], [0]), Lots([1, 2, 0], [0, 1]),
                      Lots([1, 2], [0, 1, 1]), Lots([1, 2], [])):
            self.assertIs(yard == other, False)
            self.assertIs(yard != other, True)


class Alone(unittest.TestCase):
    def test_what_is_handed_in_stays_and_may_be_changed(self):
        tops, lots = [2, 1], [1, 0, 0]
        yard = Lots(tops, lots)
        self.assertEqual((tops, lots), ([2, 1], [1, 0, 0]))
        tops[0] = 0
        tops.append(9)
        lots.clear()
        self.assertEqual((yard.tops(), yard.lots(), yard.whole()), ([2, 1], [1, 0, 0], 3))

    def test_told_lists_may_be_changed(self):
        yard = Lots([2, 1], [1, 0, 0])
        yard.tops().clear()
        yard.lots().clear()
        yard.tops()[0] = 0
        self.assertEqual((yard.tops(), yard.lots(), yard.whole()), ([2, 1], [1, 0, 0], 3))
        self.assertIsNot(yard.tops(), yard.tops())
        self.assertIsNot(yard.lots(), yard.lots())


class Worth(unittest.TestCase):
    def test_of_a_top(self):
        for top in range(25):
            yard = Lots([top], [0] * 24)
            self.assertEqual([yard.worth(list(range(end))) for end in range(25)], [min(end, top) for end in range(25)])

    def test_the_most_that_fit(self):
        for yard in small_lots():
            for heap in heaps_of(yard.many()):
                expected = lots_worth(yard.tops(), [yard.lots()[thing] for thing in heap])
                self.assertEqual(yard.worth(heap), expected, (yard, heap))

    def test_lots_are_counted_one_by_one(self):
        yard = Lots([1, 2, 0], [0, 0, 1, 1, 1, 2])
        self.assertEqual(yard.whole(), 3)
        heaps = ([0, 1], [4, 3, 2], [5], [5, 2, 0])
        self.assertEqual([yard.worth(heap) for heap in heaps], [1, 2, 0, 2])


class Refused(Refusals, unittest.TestCase):
    def test_tops(self):
        for wrong in NO_TOPS:
            self.refused(Lots, [wrong, []], "tops", None)

    def test_things(self):
        for wrong in no_lists():
            self.refused(Lots, [[1, 2], wrong], "things", None)

    def test_many_and_each_thing(self):
        for count in (1, 3, 8):
            self.refused_things(Lots, [[2] * count], count - 1, no_lots(count))

    def test_without_lots_there_are_no_things(self):
        for wrong in no_lots(0) + [0, 1]:
            self.refused(Lots, [[], [wrong]], "thing", 0)
        self.refused(Lots, [[], [0] * 25], "many", None)

    def test_tops_go_first(self):
        for wrong in NO_TOPS:
            for lots in (None, (0,), [0] * 25, [None], [0, 9]):
                self.refused(Lots, [wrong, lots], "tops", None)

    def test_fields_of_whom(self):
        self.refused(Lots, [[1, 2], [0, 1, 2, -1, None]], "thing", 2)


if __name__ == "__main__":
    unittest.main()
