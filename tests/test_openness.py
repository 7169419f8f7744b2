"""Worlds, open or settled, what counts: point [21], and what point [4] says of them."""

import copy
import random
import unittest

from anything import no_heaps
from refusals import Raised
from second import full_yards, heaps_of, without_things
from words import Pairs, asked, one_of_each, some_orders, some_words
from noaslong.boxes import Box
from noaslong.lots import Lots
from noaslong.openness import counting, is_open, is_world, many_worlds, two_worlds
from noaslong.rows import Rows
from noaslong.seats import Seats
from noaslong.ties import Ties


def worlds_of(words, box):
    """All worlds of a box, by the document's words."""
    return [heap for heap in words.heaps if {*box.yes()} <= heap and not heap & {*box.no()}]


class ByWords(unittest.TestCase):
    def check(self, words, box):
        worlds = worlds_of(words, box)
        fulfil = [heap for heap in worlds if words.fulfils(heap)]
        opened = 0 < len(fulfil) < len(worlds)
        self.assertIs(is_open(box), opened, (words.yard, box.asked()))
        self.assertEqual((type(many_worlds(box)), many_worlds(box)), (int, len(worlds)))
        self.assertEqual(counting(box), [thing for thing in box.unasked() if not words.is_idle(thing)])
        # It is open just where something counts.
        self.assertIs(counting(box) != [], opened, (words.yard, box.asked()))
        told = two_worlds(box)
        if not opened:
            self.assertIsNone(told)
        else:
            self.assertEqual((type(told), len(told)), (tuple, 2))
            self.assertEqual([sorted(heap) for heap in told], list(told))
            self.assertIn(frozenset(told[0]), fulfil)
            self.assertIn(frozenset(told[1]), worlds)
            self.assertNotIn(frozenset(told[1]), fulfil)

    def test_each_stand_in_many_orders(self):
        for words in some_words():
            for order in some_orders(len(words.things), 2, 81):
                box = Box(words.yard)
                self.check(words, box)
                for thing in order:
                    box.ask(thing)
                    self.check(words, box)

    def test_with_asks_taken_back_between(self):
        dice = random.Random(82)
        for words in some_words()[::2]:
            box = Box(words.yard)
            for step in range(12):
                if len(box) and dice.randrange(3) == 0:
                    box.back()
                elif words.things:
                    box.ask(dice.choice(sorted(words.things)))
                self.check(words, box)

    def test_is_world(self):
        for words in some_words():
            for order in some_orders(len(words.things), 0, 83)[:3]:
                for end in range(len(order) + 1):
                    box = asked(words.yard, order[:end])
                    worlds = worlds_of(words, box)
                    for heap in words.heaps:
                        self.assertIs(is_world(box, list(heap)), heap in worlds, (words.yard, order[:end], heap))

    def test_open_just_until_the_last_thing_that_is_not_idle(self):
        for words in some_words():
            for order in some_orders(len(words.things), 2, 84):
                box = Box(words.yard)
                counted = [thing for thing in order if not words.is_idle(thing)]
                for thing in order:
                    self.assertIs(is_open(box), counted != [])
                    box.ask(thing)
                    counted = [other for other in counted if other != thing]
                self.assertIs(is_open(box), False)

    def test_of_24_things(self):
        dice = random.Random(85)
        for yard in full_yards():
            box, order = Box(yard), dice.sample(range(24), 24)
            for at, thing in enumerate(order):
                self.assertEqual(many_worlds(box), 2 ** (24 - at))
                self.assertEqual(counting(box), [one for one in sorted(order[at:]) if yard.worth([one]) == 1])
                self.assertIs(is_open(box), counting(box) != [])
                if is_open(box):
                    one, other = two_worlds(box)
                    self.assertEqual([yard.worth(heap) == yard.whole() for heap in (one, other)], [True, False])
                    self.assertEqual((is_world(box, one), is_world(box, other)), (True, True))
                box.ask(thing)
            self.assertEqual((many_worlds(box), is_open(box), two_worlds(box)), (1, False, None))


class Edges(unittest.TestCase):
    def test_ordinary_ones(self):
        box = asked(Ties(3, [(0, 1), (1, 2), (2, 0)]), [1, 0])
        self.assertEqual((box.yes(), box.no(), is_open(box), counting(box), many_worlds(box)), ([0], [1], True, [2], 2))
        self.assertEqual(two_worlds(box), ([0, 2], [0]))
        self.assertEqual([is_world(box, heap) for heap in ([0], [2, 0], [2], [0, 1], [], [0, 1, 2])],
                         [True, True, False, False, False, False])

    def test_of_which_nothing_was_asked(self):
        for yard in one_of_each():
            box = Box(yard)
            self.assertEqual((is_open(box), counting(box), many_worlds(box)), (True, [0, 1, 2], 16))
            self.assertEqual([is_world(box, heap) for heap in heaps_of(4)], [True] * 16)

    def test_of_which_everything_was_asked(self):
        for yard in one_of_each():
            box = asked(yard, [3, 1, 2, 0])
            told = (is_open(box), counting(box), many_worlds(box), two_worlds(box))
            self.assertEqual(told, (False, [], 1, None))
            self.assertEqual([heap for heap in heaps_of(4) if is_world(box, heap)], [[0, 2]])

    def test_idle_things_do_not_count_but_make_worlds(self):
        for yard in one_of_each():
            box = asked(yard, [2, 1, 0])
            told = (is_open(box), counting(box), many_worlds(box), two_worlds(box))
            self.assertEqual(told, (False, [], 2, None))
            self.assertEqual([heap for heap in heaps_of(4) if is_world(box, heap)], [[0, 2], [0, 2, 3]])

    def test_the_last_that_counts_settles_it(self):
        for yard in one_of_each():
            box = asked(yard, [3, 2, 1])
            self.assertEqual((is_open(box), counting(box)), (True, [0]))
            box.ask(0)
            self.assertEqual((is_open(box), counting(box)), (False, []))
            box.back()
            self.assertEqual((is_open(box), counting(box)), (True, [0]))

    def test_where_there_are_no_things_or_only_idle_ones(self):
        for yard in without_things():
            box = Box(yard)
            told = (is_open(box), counting(box), many_worlds(box), two_worlds(box), is_world(box, []))
            self.assertEqual(told, (False, [], 1, None, True))
        for yard in (Ties(1, [(0, 0)] * 2), Rows([0, 0]), Lots([0], [0, 0]), Seats(1, [[], []])):
            box = Box(yard)
            self.assertEqual((is_open(box), counting(box), many_worlds(box), two_worlds(box)), (False, [], 4, None))


class Refused(Raised, unittest.TestCase):
    def test_no_heap(self):
        for yards, many in ((one_of_each(), 4), (without_things(), 0), (full_yards()[::6], 24)):
            for yard in yards:
                box = asked(yard, yard.things()[::2])
                before = box.copied()
                for wrong in no_heaps(many):
                    self.raised("NoHeap", is_world, box, wrong)
                self.assertTrue(box == before)


class Alone(unittest.TestCase):
    def test_by_names(self):
        box = Box(Rows([5, 5]))
        self.assertIs(is_world(heap=[1], box=box), True)
        self.assertEqual((is_open(box=box), counting(box=box), many_worlds(box=box)), (True, [0, 1], 4))
        self.assertEqual(len(two_worlds(box=box)), 2)

    def test_what_is_handed_in_stays(self):
        for yard in one_of_each():
            box, heap = asked(yard, [1]), [2, 0]
            before = box.copied()
            for call in (lambda box: is_world(box, heap), is_open, counting, two_worlds, many_worlds):
                call(box)
            self.assertEqual(heap, [2, 0])
            self.assertTrue(box == before)
            self.assertEqual((box.answers(), box.unasked()), (before.answers(), before.unasked()))

    def test_told_lists_are_the_askers_own(self):
        for yard in one_of_each() + [Pairs()]:
            box = asked(yard, [1])
            first, second, counted = two_worlds(box), two_worlds(box), counting(box)
            kept = copy.deepcopy((second, counted))
            lists = [*first, *second, counted, counting(box)]
            self.assertEqual(len({id(each) for each in lists}), len(lists))
            first[0].clear()
            first[1].append(0)
            counted.clear()
            self.assertEqual((two_worlds(box), counting(box)), kept)
            self.assertEqual(second, kept[0])


if __name__ == "__main__":
    unittest.main()
