"""What is promised alike of mirrors, parts and yards side by side: points [9], [12] and [27]."""

import copy
import itertools
import random
import unittest

from anything import Equal, Odd, no_heaps, no_lists, no_wholes
from refusals import Raised
from second import full_layers, full_yards, grounds, heaps_of, second_worth, some_heaps, some_layers, worths
from noaslong.beside import Beside
from noaslong.boxes import Box
from noaslong.lots import Lots
from noaslong.mirrors import Mirror
from noaslong.parts import Part
from noaslong.rows import Rows
from noaslong.seats import Seats
from noaslong.ties import Ties
from noaslong.yards import Yard

METHODS = ("many", "things", "worth", "whole", "__init__", "__eq__", "__len__", "__repr__")
LISTED = ((Mirror, ("of",)), (Part, ("of", "away", "granted", "old", "new")), (Beside, ("one", "other")))
SORTS = (Ties, Rows, Lots, Seats, Mirror, Part, Beside)
LAYERS = (Mirror, lambda yard: Part(yard, away=[0]), lambda yard: Part(yard, granted=[1]), Part,
          lambda yard: Beside(yard, Rows([1])), lambda yard: Beside(Lots([1], [0]), yard))


def of_four_things():
    """Layered yards of four things."""
    rows = Rows([5, 0, 5, 3, 6])
    return [Mirror(Rows([5, 5, 3, 0])), Part(rows, away=[2]), Part(rows, granted=[0]),
            Part(Mirror(rows), granted=[4]), Beside(Rows([5, 5]), Lots([1], [0, 0])),
            Beside(Mirror(Rows([5])), Seats(1, [[0], [], [0]]))]


def towers(depth):
    """Yards with just so many layers within one another, of each layer at each place."""
    base = Ties(4, [(0, 1), (1, 2), (2, 0), (3, 3), (2, 3), (0, 3), (1, 1)])
    for layers in itertools.product(LAYERS, repeat=depth):
        yard = base
        for layer in layers:
            yard = layer(yard)
        yield yard


class Yards(unittest.TestCase):
    def test_each_is_a_yard_and_of_no_other_sort(self):
        for yard in some_layers():
            self.assertIsInstance(yard, Yard)
            self.assertEqual(sum(isinstance(yard, sort) for sort in SORTS), 1)

    def test_methods_stand_in_the_class_itself(self):
        for sort, names in LISTED:
            for name in METHODS + names:
                self.assertIn(name, vars(sort), (sort, name))

    def test_many_things_and_length(self):
        for yard in some_layers() + full_layers():
            self.assertEqual(yard.things(), list(range(yard.many())))
            self.assertEqual(len(yard), yard.many())
        self.assertEqual({yard.many() for yard in full_layers()}, {24})
        self.assertEqual({yard.many() for yard in of_four_things()}, {4})

    def test_without_things(self):
        nothing = [Mirror(Rows([])), Mirror(Mirror(Ties(3, []))), Part(Seats(2, [])), Beside(Rows([]), Lots([], [])),
                   Part(Rows([5, 3]), away=[1, 0]), Part(Rows([5, 3]), granted=[1, 0]),
                   Part(Rows([5, 3]), away=[1], granted=[0]), Mirror(Part(Rows([5, 3]), away=[1], granted=[0]))]
        for yard in nothing:
            self.assertEqual((yard.many(), yard.things(), len(yard), yard.worth([]), yard.whole()), (0, [], 0, 0, 0))

    def test_told_heaps_are_the_askers_own(self):
        for yard, again in zip(of_four_things(), of_four_things()):
            told = yard.things()
            told.reverse()
            told.append(9)
            self.assertEqual(yard.things(), [0, 1, 2, 3])
            self.assertIsNot(yard.things(), yard.things())
            self.assertTrue(yard == again)


class Worth(Raised, unittest.TestCase):
    def test_all_heaps_by_the_words(self):
        for yard in some_layers():
            for heap in heaps_of(yard.many()):
                self.assertEqual(yard.worth(heap), second_worth(yard, heap), (yard, heap))

    def test_of_24_things(self):
        for yard in full_layers():
            for heap in some_heaps(24, 8, 5):
                self.assertEqual(yard.worth(heap), second_worth(yard, heap), (yard, heap))

    def test_in_any_order_and_by_name(self):
        dice = random.Random(3)
        for yard in some_layers() + full_layers():
            heap = yard.things()
            dice.shuffle(heap)
            for end in range(len(heap) + 1):
                self.assertEqual(yard.worth(heap[:end]), yard.worth(sorted(heap[:end])))
                self.assertEqual(yard.worth(heap=heap[:end]), yard.worth(heap[:end]))

    def test_whole_and_whole_numbers(self):
        for yard in some_layers() + full_layers():
            self.assertEqual(yard.whole(), yard.worth(yard.things()))
            self.assertEqual({type(yard.worth([])), type(yard.whole())}, {int})

    def test_nothing_a_thing_more_and_two_heaps(self):
        for yard in some_layers():
            worth = {tuple(heap): yard.worth(heap) for heap in heaps_of(yard.many())}
            self.assertEqual(worth[()], 0)
            for heap in worth:
                for thing in set(yard.things()) - set(heap):
                    self.assertIn(worth[tuple(sorted((*heap, thing)))] - worth[heap], (0, 1))
            if yard.many() <= 4:
                for one, other in itertools.product(worth, repeat=2):
                    either, both = tuple(sorted({*one, *other})), tuple(sorted({*one} & {*other}))
                    self.assertGreaterEqual(worth[one] + worth[other], worth[either] + worth[both], (yard, one, other))

    def test_no_heap_of_anything(self):
        for yards, many in ((of_four_things(), 4), (full_layers(), 24), ([Mirror(Rows([])), Part(Rows([]))], 0)):
            for yard in yards:
                shown = repr(yard)
                for wrong in no_heaps(many):
                    self.raised("NoHeap", yard.worth, wrong)
                self.assertEqual(repr(yard), shown)

    def test_things_of_the_yard_that_are_none_of_the_part(self):
        yard = Part(Rows([5, 3, 6, 1]), away=[0], granted=[1])
        for wrong in ([2], [3], [0, 2], [1, 3]):
            self.raised("NoHeap", yard.worth, wrong)

    def test_what_is_handed_in_stays(self):
        for yard in of_four_things():
            for heap in ([2, 0, 1], [1], [], [2, 2], [[0], None]):
                kept = copy.deepcopy(heap)
                try:
                    yard.worth(heap)
                except ValueError:
                    pass
                self.assertEqual(heap, kept)


class Equals(unittest.TestCase):
    def test_equal_just_where_made_of_the_same(self):
        yards, again = some_layers()[::2] + grounds(), some_layers()[::2] + grounds()
        for one, other in itertools.product(yards, again):
            self.assertIs(one == other, repr(one) == repr(other))
            self.assertIs(one != other, repr(one) != repr(other))
        for one, other in zip(yards, again):
            self.assertIs(one == other, True)

    def test_unequal_though_the_worths_are_the_same(self):
        for ground in grounds():
            yards = [ground, Mirror(Mirror(ground)), Part(ground), Part(Part(ground)), Part(Mirror(Mirror(ground))),
                     Beside(ground, Rows([])), Beside(Rows([]), ground), Beside(ground, Lots([], []))]
            # The ground without things is one of those beside which it is set.
            for one, other in itertools.permutations(yards if ground.many() else yards[:6], 2):
                self.assertEqual(worths(one), worths(other))
                self.assertIs(one == other, False)
                self.assertIs(one != other, True)

    def test_unequal_to_anything_else(self):
        for yard in of_four_things():
            others = no_lists() + [Yard(), repr(yard), yard.things(), [yard], (yard,), type(yard), vars(yard),
                                   Box(yard), Odd(), Equal()]
            for other in others:
                self.assertIs(yard == other, False)
                self.assertIs(yard != other, True)
            for other in (None, 0, "", repr(yard), [], (), object()):
                self.assertIs(other == yard, False)


class Shown(unittest.TestCase):
    def test_as_the_interface_shows_it(self):
        self.assertEqual(repr(Mirror(Rows([5]))), "Mirror(Rows([5]))")
        self.assertEqual(repr(Part(Rows([5, 3]), away=[0])), "Part(Rows([5, 3]), away=[0], granted=[])")
        self.assertEqual(repr(Part(Rows([5, 3, 1]), granted=[2, 0])), "Part(Rows([5, 3, 1]), away=[], granted=[0, 2])")
        self.assertEqual(repr(Beside(Rows([5]), Rows([3]))), "Beside(Rows([5]), Rows([3]))")
        self.assertEqual(repr(Mirror(Part(Beside(Seats(1, [[0], []]), Mirror(Lots([1], [0]))), away=[1]))),
                         "Mirror(Part(Beside(Seats(1, [[0], []]), Mirror(Lots([1], [0]))), away=[1], granted=[]))")

    def test_it_is_what_makes_it(self):
        names = {sort.__name__: sort for sort in SORTS}
        for yard in some_layers() + full_layers():
            self.assertTrue(eval(repr(yard), names) == yard)


class Deep(Raised, unittest.TestCase):
    def too_deep(self, call, *arguments):
        self.raised("NoYard", call, *arguments, what="deep", who=None)

    def test_four_within_one_another(self):
        for yard in towers(4):
            self.assertEqual(yard.worth([]), 0)
            self.assertEqual(yard.many(), len(yard.things()))

    def test_five_within_one_another(self):
        flat = Rows([5])
        for yard in list(towers(4))[::7]:
            shown = repr(yard)
            self.too_deep(Mirror, yard)
            self.too_deep(Part, yard)
            self.too_deep(lambda: Part(yard, away=[0], granted=[1]))
            self.too_deep(Beside, yard, flat)
            self.too_deep(Beside, flat, yard)
            self.too_deep(Beside, yard, yard.of() if isinstance(yard, (Mirror, Part)) else flat)
            self.assertEqual(repr(yard), shown)

    def test_two_of_four_side_by_side(self):
        small = Mirror(Mirror(Mirror(Mirror(Rows([5])))))
        self.too_deep(Beside, small, small)

    def test_what_stands_beside_one_another_is_not_within(self):
        three = Mirror(Part(Mirror(Rows([5, 3])), away=[0]))
        yard = Beside(three, three)
        self.assertEqual((yard.many(), yard.whole()), (2, three.whole() * 2))
        self.too_deep(Mirror, yard)

    def test_a_mirrors_yard_may_be_mirrored_again(self):
        deep = Mirror(Mirror(Mirror(Mirror(Rows([5, 3])))))
        self.too_deep(Mirror, deep)
        self.assertTrue(Mirror(deep.of()) == deep)


class NoYards(Raised, unittest.TestCase):
    def wrongs(self):
        rows = Rows([1])
        return no_lists() + no_wholes() + [Ties, Yard, Mirror, Box(rows), [rows], (rows,), "Rows([1])", vars(rows)]

    def test_of_anything(self):
        deep = Mirror(Mirror(Mirror(Mirror(Rows([5])))))
        for wrong in self.wrongs():
            self.raised("NoYard", Mirror, wrong, what="yard", who=None)
            self.raised("NoYard", Part, wrong, what="yard", who=None)
            self.raised("NoYard", Beside, wrong, Rows([1]), what="one", who=None)
            self.raised("NoYard", Beside, Rows([1]), wrong, what="other", who=None)
            self.raised("NoYard", Beside, wrong, wrong, what="one", who=None)
            self.raised("NoYard", Beside, deep, wrong, what="other", who=None)
            self.raised("NoYard", Beside, wrong, deep, what="one", who=None)
        for wrong in ("", None, 5):
            self.raised("NoYard", lambda: Part(wrong, away=None, granted=None), what="yard", who=None)

    def test_which_is_told_first(self):
        deep = Mirror(Mirror(Mirror(Mirror(Rows([5, 3])))))
        for what, away, granted in (("away", [2], [2]), ("away", None, [0, 0]), ("granted", [0], [0, 0]),
                                    ("granted", [], None), ("both", [0], [0]), ("both", [1, 0], [1]),
                                    ("deep", [0], [1]), ("deep", [], ())):
            self.raised("NoYard", lambda: Part(deep, away=away, granted=granted), what=what, who=None)
        full = full_yards()[0]
        self.raised("NoYard", Beside, full, deep, what="many", who=None)
        self.raised("NoYard", Beside, deep, full, what="many", who=None)


if __name__ == "__main__":
    unittest.main()
