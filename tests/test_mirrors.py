"""Mirrors: point [23], and the mirrors of point [27]."""

import unittest

from second import full_yards, grounds, second_worth, some_heaps, without_things, worths
from words import Words, some_words
from noaslong.beside import Beside
from noaslong.least import is_least
from noaslong.lots import Lots
from noaslong.mirrors import Mirror
from noaslong.parts import Part
from noaslong.rings import is_least_fence, is_ring
from noaslong.rows import Rows
from noaslong.seats import Seats
from noaslong.ties import Ties


def shallow(depth):
    """Words of small yards over which so many layers more may stand."""
    return [words for words in some_words() if words.yard.depth() + depth <= 4]


class Worth(unittest.TestCase):
    def test_ordinary_ones(self):
        ring = Mirror(Ties(3, [(0, 1), (1, 2), (2, 0)]))
        self.assertEqual(worths(ring), [0, 1, 1, 1, 1, 1, 1, 1])
        self.assertEqual(worths(Mirror(Rows([5, 5, 3]))), [0, 1, 1, 0, 1, 1, 1, 1])
        self.assertEqual(worths(Mirror(Lots([2], [0, 0, 0, 0])))[-5:], [2, 2, 2, 2, 2])
        self.assertEqual(worths(Mirror(Seats(1, [[0], [0]]))), [0, 1, 1, 1])

    def test_idle_things_are_worth_1_there_and_sure_ones_nothing(self):
        self.assertEqual(worths(Mirror(Rows([0, 0]))), [0, 1, 1, 2])
        self.assertEqual(worths(Mirror(Rows([1, 2]))), [0, 0, 0, 0])
        self.assertEqual(worths(Mirror(Lots([0], [0]))), [0, 1])

    def test_by_the_words_over_all_heaps(self):
        for words in shallow(1):
            mirror = Mirror(words.yard)
            for heap in words.heaps:
                out = words.things - heap
                expected = len(heap) + words.worth(out) - words.worth(words.things)
                self.assertEqual(mirror.worth(sorted(heap)), expected, (words.yard, heap))

    def test_the_mirrors_mirror_has_the_yards_worths(self):
        for words in shallow(2):
            mirror = Mirror(Mirror(words.yard))
            for heap in words.heaps:
                self.assertEqual(mirror.worth(sorted(heap)), words.worth(heap), (words.yard, heap))
        for yard in full_yards():
            for heap in some_heaps(24, 4, 21):
                self.assertEqual(Mirror(Mirror(yard)).worth(heap), yard.worth(heap))

    def test_of_24_things(self):
        for yard in full_yards():
            if not isinstance(yard, Seats) or yard.seats() < 12:
                for heap in some_heaps(24, 4, 22):
                    self.assertEqual(Mirror(yard).worth(heap), second_worth(Mirror(yard), heap))
            self.assertEqual(Mirror(yard).whole(), 24 - yard.whole())


class There(unittest.TestCase):
    def test_least_heaps(self):
        for words in shallow(1):
            for heap in words.heaps:
                out = sorted(words.things - heap)
                self.assertIs(is_least(Mirror(words.yard), out), words.is_least(heap), (words.yard, heap))

    def test_rings_there_are_least_fences_here(self):
        for words in shallow(1):
            mirror = Mirror(words.yard)
            for heap in words.heaps:
                self.assertIs(is_ring(mirror, sorted(heap)), words.is_least_fence(heap) and heap != frozenset())
                self.assertIs(is_least_fence(mirror, sorted(heap)), words.is_ring(heap))

    def test_the_mirror_of_a_part_is_the_part_of_the_mirror(self):
        for ground in grounds():
            words = Words(ground)
            for away in words.heaps:
                for granted in [heap for heap in words.heaps if not heap & away]:
                    one = Mirror(Part(ground, away=sorted(away), granted=sorted(granted)))
                    other = Part(Mirror(ground), away=sorted(granted), granted=sorted(away))
                    self.assertEqual(worths(one), worths(other), (ground, away, granted))

    def test_the_mirror_of_two_side_by_side_is_their_mirrors_side_by_side(self):
        for one in grounds():
            for other in grounds():
                few = Part(other, away=other.things()[2:])
                for second in (other, few) if one.many() == 0 else (few,):
                    self.assertEqual(worths(Mirror(Beside(one, second))), worths(Beside(Mirror(one), Mirror(second))))


class Made(unittest.TestCase):
    def test_of(self):
        for yard in grounds() + without_things() + full_yards() + [words.yard for words in shallow(1)]:
            mirror = Mirror(yard)
            self.assertTrue(mirror.of() == yard)
            self.assertEqual((mirror.many(), mirror.things(), len(mirror)), (yard.many(), yard.things(), len(yard)))
            self.assertEqual(repr(mirror), f"Mirror({yard!r})")

    def test_by_name(self):
        self.assertTrue(Mirror(yard=Rows([5])) == Mirror(Rows([5])))

    def test_equal_where_the_yards_are(self):
        yards = grounds() + without_things()
        for at, one in enumerate(yards):
            for place, other in enumerate(grounds() + without_things()):
                self.assertIs(Mirror(one) == Mirror(other), one == other)
                if at == place:
                    self.assertIs(Mirror(one) == Mirror(other), True)

    def test_the_yard_stays_and_what_it_was_made_of_has_no_bearing(self):
        rows = [5, 3, 6]
        mirror = Mirror(Rows(rows))
        rows.clear()
        mirror.of().rows().clear()
        self.assertEqual((repr(mirror), worths(mirror)), ("Mirror(Rows([5, 3, 6]))", [0, 1, 1, 1, 1, 1, 1, 1]))
        for yard in grounds():
            shown = repr(yard)
            worths(Mirror(yard))
            self.assertEqual(repr(yard), shown)


if __name__ == "__main__":
    unittest.main()
