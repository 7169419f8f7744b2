"""Parts: point [25]."""

import unittest

from anything import no_heaps, no_things
from refusals import Raised
from second import full_yards, grounds, heaps_of, second_worth, without_things, worths
from words import Words, one_of_each
from noaslong.lots import Lots
from noaslong.mirrors import Mirror
from noaslong.parts import Part
from noaslong.rows import Rows
from noaslong.seats import Seats
from noaslong.ties import Ties


def splits(many):
    """All ways to give away some of so many things and to grant some, none both."""
    heaps = heaps_of(many)
    return [(away, granted) for away in heaps for granted in heaps if not {*away} & {*granted}]


class Worth(unittest.TestCase):
    def test_ordinary_ones(self):
        ring = Ties(3, [(0, 1), (1, 2), (2, 0), (0, 0)])
        self.assertEqual(worths(Part(ring, away=[0, 3])), [0, 1, 1, 2])
        self.assertEqual(worths(Part(ring, granted=[0], away=[3])), [0, 1, 1, 1])
        self.assertEqual(worths(Part(Rows([5, 3, 6, 1]), away=[0], granted=[1])), [0, 1, 1, 2])
        self.assertEqual(worths(Part(Rows([5, 3, 6, 1]), away=[3], granted=[2, 1])), [0, 0])
        self.assertEqual(worths(Part(Lots([2, 1], [0, 0, 0, 1]), granted=[1])), [0, 1, 1, 1, 1, 2, 2, 2])
        self.assertEqual(worths(Part(Seats(2, [[0], [0, 1], [1]]), granted=[1])), [0, 1, 1, 1])

    def test_by_the_words_over_all_heaps(self):
        for ground in grounds() + [Mirror(ground) for ground in grounds()]:
            words = Words(ground)
            for away, granted in splits(ground.many()):
                part = Part(ground, away=away, granted=granted)
                others = [thing for thing in range(ground.many()) if thing not in away + granted]
                self.assertEqual((part.many(), part.things()), (len(others), list(range(len(others)))))
                for heap in heaps_of(len(others)):
                    these = {others[thing] for thing in heap}
                    expected = words.worth(these | {*granted}) - words.worth(granted)
                    self.assertEqual(part.worth(heap), expected, (part, heap))

    def test_nothing_of_both_and_all_of_either(self):
        for ground in grounds():
            every = ground.things()
            self.assertEqual(worths(Part(ground)), worths(ground))
            for part in (Part(ground, away=every), Part(ground, granted=every),
                         Part(ground, away=every[::2], granted=every[1::2])):
                self.assertEqual((part.many(), part.things(), len(part), part.whole(), part.worth([])),
                                 (0, [], 0, 0, 0))

    def test_of_24_things(self):
        for yard in full_yards():
            if not isinstance(yard, Seats) or yard.seats() < 12:
                part = Part(yard, away=[23, 0, 7], granted=[22, 1, 11])
                for heap in ([], [0], [17, 3, 4], list(range(18)), list(range(0, 18, 2))):
                    self.assertEqual(part.worth(heap), second_worth(part, heap))
                self.assertEqual(Part(yard).whole(), yard.whole())


class Numbers(Raised, unittest.TestCase):
    def test_old_and_new(self):
        for ground in grounds():
            for away, granted in splits(ground.many()):
                part = Part(ground, away=away, granted=granted)
                others = [thing for thing in range(ground.many()) if thing not in away + granted]
                self.assertEqual([part.old(thing) for thing in part.things()], others)
                told = [part.new(thing) for thing in ground.things()]
                expected = [others.index(thing) if thing in others else None for thing in ground.things()]
                self.assertEqual(told, expected)

    def test_an_ordinary_one(self):
        part = Part(Rows([5, 3, 6, 1, 2]), away=[3, 0], granted=[2])
        self.assertEqual([part.old(0), part.old(1)], [1, 4])
        self.assertEqual([part.new(thing) for thing in range(5)], [None, 0, None, None, 1])
        self.assertEqual((part.old(thing=1), part.new(thing=4)), (4, 1))

    def test_the_yard_is_the_one_right_below(self):
        inner = Part(Rows([5, 3, 6, 1]), away=[0])
        outer = Part(inner, granted=[1])
        self.assertEqual([outer.old(thing) for thing in outer.things()], [0, 2])
        self.assertEqual([inner.old(outer.old(thing)) for thing in outer.things()], [1, 3])
        self.raised("NoThing", outer.new, 3, who=3)

    def test_no_thing(self):
        part = Part(Rows([5, 3, 6, 1, 2]), away=[3, 0], granted=[2])
        for wrong in no_things(2) + [2, 3, 4]:
            self.raised("NoThing", part.old, wrong, who=wrong)
        for wrong in no_things(5) + [5]:
            self.raised("NoThing", part.new, wrong, who=wrong)

    def test_no_thing_where_there_are_none(self):
        for yard in without_things():
            for wrong in no_things(0) + [0]:
                self.raised("NoThing", Part(yard).old, wrong, who=wrong)
                self.raised("NoThing", Part(yard).new, wrong, who=wrong)
        part = Part(Rows([5]), granted=[0])
        self.raised("NoThing", part.old, 0, who=0)
        self.assertIsNone(part.new(0))


class Made(unittest.TestCase):
    def test_of_away_and_granted(self):
        part = Part(Rows([5, 3, 6, 1]), away=[2, 0], granted=[3, 1])
        self.assertEqual((part.away(), part.granted()), ([0, 2], [1, 3]))
        for yard in grounds() + without_things() + full_yards():
            for part in (Part(yard), Part(yard, away=()), Part(yard, granted=()), Part(yard, away=(), granted=[])):
                self.assertTrue(part.of() == yard)
                self.assertEqual((part.away(), part.granted(), len(part)), ([], [], len(yard)))
            every = yard.things()
            self.assertEqual(Part(yard, away=every[::-1]).away(), every)
            self.assertEqual(Part(yard, granted=every[::-1]).granted(), every)

    def test_away_and_granted_by_their_names_alone(self):
        yard = Rows([5, 3])
        self.assertTrue(Part(yard=yard, granted=[1], away=[0]) == Part(yard, away=[0], granted=[1]))
        for call in (lambda: Part(yard, [0]), lambda: Part(yard, [0], [1]), lambda: Part(yard, (), ())):
            with self.assertRaises(TypeError):
                call()

    def test_equal_where_yards_and_heaps_are(self):
        one, other = Rows([5, 3, 6]), Rows([5, 3, 6])
        self.assertIs(Part(one, away=[2, 0]) == Part(other, away=[0, 2]), True)
        self.assertIs(Part(one, granted=[2, 0]) == Part(other, granted=[0, 2]), True)
        self.assertIs(Part(one, away=(), granted=()) == Part(other, away=[], granted=[]), True)
        self.assertIs(Part(one, away=[0]) == Part(other, granted=[0]), False)
        self.assertIs(Part(one, away=[0], granted=[1]) == Part(other, away=[1], granted=[0]), False)
        self.assertIs(Part(one, away=[0]) == Part(other, away=[0], granted=[1]), False)
        self.assertIs(Part(one, away=[0]) == Part(other), False)
        self.assertIs(Part(one, away=[2]) == Part(Rows([5, 3, 1]), away=[2]), False)
        self.assertIs(Part(one, away=[2]) == Rows([5, 3]), False)
        self.assertIs(Part(one, away=[2]) != Part(other, away=[2]), False)
        self.assertIs(Part(one, away=[2]) != Part(other, away=[1]), True)

    def test_what_is_handed_in_stays_and_may_be_changed(self):
        for yard in one_of_each():
            shown, away, granted = repr(yard), [3, 1], [2]
            part = Part(yard, away=away, granted=granted)
            told = worths(part)
            self.assertEqual((repr(yard), away, granted), (shown, [3, 1], [2]))
            away.append(0)
            granted.clear()
            self.assertEqual((part.away(), part.granted(), worths(part), len(part)), ([1, 3], [2], told, 1))

    def test_told_lists_are_the_askers_own(self):
        part = Part(Rows([5, 3, 6, 1]), away=[2, 0], granted=[3])
        for tell, told in ((part.away, [0, 2]), (part.granted, [3]), (part.things, [0])):
            self.assertIsNot(tell(), tell())
            tell().append(1)
            tell().clear()
            self.assertEqual(tell(), told)
        self.assertEqual(worths(part), [0, 1])
        self.assertEqual(repr(part), "Part(Rows([5, 3, 6, 1]), away=[0, 2], granted=[3])")


class Refused(Raised, unittest.TestCase):
    def no_heaps_here(self, many):
        """What is no heap, but for the tuple of nothing, which may stand for one."""
        return [wrong for wrong in no_heaps(many) if not (type(wrong) is tuple and wrong == ())]

    def refused(self, yard, what, away, granted):
        self.raised("NoYard", lambda: Part(yard, away=away, granted=granted), what=what, who=None)

    def test_no_heaps(self):
        for yards, many in ((one_of_each(), 4), (without_things(), 0), (full_yards()[::6], 24)):
            for yard in yards:
                shown = repr(yard)
                for wrong in self.no_heaps_here(many):
                    self.refused(yard, "away", wrong, [])
                    self.refused(yard, "granted", (), wrong)
                    self.refused(yard, "away", wrong, wrong)
                self.assertEqual(repr(yard), shown)

    def test_which_the_document_names(self):
        for yard in one_of_each():
            for wrong in ([0, 0], [4], [-1], [True], [False], True, None, "", "0", (0,), (0, 1), [None], {0}, range(2)):
                self.refused(yard, "away", wrong, [1])
                self.refused(yard, "granted", [1], wrong)

    def test_both(self):
        for yard in one_of_each():
            for away, granted in (([0], [0]), ([0, 1], [2, 1]), ([3, 2, 1, 0], [3]), ([0, 1, 2, 3], [3, 2, 1, 0])):
                self.refused(yard, "both", away, granted)

    def test_what_is_handed_in_stays(self):
        for what, away, granted in (("away", [1, 1], [0]), ("granted", [1, 0], [4, 2]), ("both", [2, 1], [3, 1])):
            kept = (list(away), list(granted))
            self.refused(Rows([5, 3, 6, 1]), what, away, granted)
            self.assertEqual((away, granted), kept)


if __name__ == "__main__":
    unittest.main()
