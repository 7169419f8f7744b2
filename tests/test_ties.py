"""Ties between places."""

import itertools
import unittest

from anything import no_lists, no_wholes
from refusals import Refusals
from second import heaps_of, pieces
from noaslong.ties import Ties

NO_PLACES = [0, -1, -12, 13, 14, 100, 10 ** 29] + no_wholes()


def no_ties(places):
    """What is no tie between so many places."""
    wrong = [None, 0, 1, "", "01", "ab", b"01", [0, 0], [], (), (0,), (0, 0, 0), {0: 0}, {0}, range(2), object(), True,
             ((0, 0),), ((0, 0), (0, 0))]
    for place in [-1, places, places + 1, 12, 10 ** 29] + no_wholes():
        wrong += [(0, place), (place, 0), (place, place)]
    return wrong


class Made(unittest.TestCase):
    def test_told_as_handed_in(self):
        pairs = [(2, 0), (1, 1), (0, 2), (2, 0)]
        yard = Ties(3, pairs)
        self.assertEqual((yard.places(), yard.pairs()), (3, pairs))
        self.assertTrue(all(type(pair) is tuple for pair in yard.pairs()))

    def test_by_names(self):
        self.assertTrue(Ties(places=2, pairs=[(0, 1)]) == Ties(2, [(0, 1)]))
        self.assertTrue(Ties(pairs=[(0, 1)], places=2) == Ties(2, [(0, 1)]))

    def test_all_numbers_of_places(self):
        for places in range(1, 13):
            line = [(at, at + 1) for at in range(places - 1)]
            yard = Ties(places, line)
            self.assertEqual((yard.places(), yard.whole()), (places, places - 1))
            self.assertEqual(Ties(places, [(places - 1, places - 1)]).whole(), 0)

    def test_no_things_and_24(self):
        self.assertEqual(Ties(5, []).pairs(), [])
        self.assertEqual(Ties(2, [(0, 1)] * 24).many(), 24)

    def test_repr(self):
        self.assertEqual(repr(Ties(3, [(0, 1), (2, 2)])), "Ties(3, [(0, 1), (2, 2)])")
        self.assertEqual(repr(Ties(1, [])), "Ties(1, [])")
        self.assertEqual(repr(Ties(12, [(11, 0)])), "Ties(12, [(11, 0)])")

    def test_equal(self):
        yard = Ties(3, [(0, 1), (1, 2)])
        for other in (Ties(4, [(0, 1), (1, 2)]), Ties(3, [(1, 2), (0, 1)]), Ties(3, [(1, 0), (1, 2)]),
                      Ties(3, [(0, 1)]), Ties(3, [(0, 1), (1, 2), (1, 2)]), Ties(3, [])):
            self.assertIs(yard == other, False)
            self.assertIs(yard != other, True)


class Alone(unittest.TestCase):
    def test_what_is_handed_in_stays_and_may_be_changed(self):
        pairs = [(1, 0), (1, 2)]
        yard = Ties(3, pairs)
        self.assertEqual(pairs, [(1, 0), (1, 2)])
        pairs[0] = (2, 2)
        pairs.append((0, 0))
        self.assertEqual((yard.pairs(), yard.many(), yard.worth([0, 1])), ([(1, 0), (1, 2)], 2, 2))

    def test_told_lists_may_be_changed(self):
        yard = Ties(3, [(1, 0), (1, 2)])
        yard.pairs().clear()
        yard.pairs()[0] = None
        self.assertEqual((yard.pairs(), yard.worth([0, 1])), ([(1, 0), (1, 2)], 2))
        self.assertIsNot(yard.pairs(), yard.pairs())


class Worth(unittest.TestCase):
    def test_ties_at_one_place_and_ties_alike(self):
        yard = Ties(3, [(0, 0), (0, 1), (1, 0), (0, 1), (2, 2)])
        self.assertEqual([yard.worth([thing]) for thing in range(5)], [0, 1, 1, 1, 0])
        self.assertEqual((yard.worth([1, 2, 3]), yard.worth([0, 4]), yard.whole()), (1, 0, 1))

    def test_a_ring_of_ties(self):
        yard = Ties(4, [(0, 1), (1, 2), (2, 3), (3, 0)])
        for heap in heaps_of(4):
            self.assertEqual(yard.worth(heap), min(len(heap), 3))

    def test_pieces_that_meet_late(self):
        yard = Ties(12, [(0, 1), (2, 3), (4, 5), (1, 2), (3, 4), (5, 0), (11, 11), (10, 11)])
        self.assertEqual([yard.worth(list(range(end))) for end in range(9)], [0, 1, 2, 3, 4, 5, 5, 5, 6])

    def test_all_ties_between_four_places(self):
        yard = Ties(4, list(itertools.combinations(range(4), 2)))
        for heap in heaps_of(6):
            self.assertEqual(yard.worth(heap), 4 - pieces(4, [yard.pairs()[thing] for thing in heap]))


class Refused(Refusals, unittest.TestCase):
    def test_places(self):
        for wrong in NO_PLACES:
            self.refused(Ties, [wrong, []], "places", None)

    def test_things(self):
        for wrong in no_lists():
            self.refused(Ties, [3, wrong], "things", None)

    def test_many_and_each_thing(self):
        for places in (1, 3, 12):
            self.refused_things(Ties, [places], (0, places - 1), no_ties(places))

    def test_places_go_first(self):
        for wrong in NO_PLACES:
            for pairs in (None, ((0, 1),), [(0, 0)] * 25, [None], [(0, 0), (5, 5)]):
                self.refused(Ties, [wrong, pairs], "places", None)

    def test_fields_of_whom(self):
        self.refused(Ties, [3, [(0, 1), (2, 3), (3, 2), None]], "thing", 1)
        self.refused(Ties, [3, [(0, 1), (2, 2), [0, 1], (9, 9)]], "thing", 2)


if __name__ == "__main__":
    unittest.main()
