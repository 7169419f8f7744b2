"""Papers: each answer of a box has a right one, a ring or a least fence: points [19] and [20]."""

import copy
import random
import unittest

from anything import no_things
from refusals import Raised
from second import full_yards, without_things
from words import Pairs, asked, one_of_each, some_orders, some_words
from noaslong.boxes import Box
from noaslong.judge import are_right, is_right
from noaslong.lots import Lots
from noaslong.papers import paper, papers
from noaslong.rings import is_least_fence, is_ring
from noaslong.rows import Rows
from noaslong.seats import Seats
from noaslong.ties import Ties


class ByWords(unittest.TestCase):
    def check(self, words, box, shown, at):
        """Whether this is a right paper of the answer at this place, its heap a ring or a least fence, rising."""
        told = box.answers()[:at + 1]
        self.assertIs(type(shown), tuple)
        word, heap = shown
        self.assertEqual(word, "fence" if told[-1][1] else "ring", (words.yard, told))
        self.assertTrue(words.is_right(told, shown), (words.yard, told, shown))
        self.assertTrue(words.is_least_fence(heap) if word == "fence" else words.is_ring(heap), (words.yard, told))
        self.assertEqual((type(heap), heap), (list, sorted(heap)))

    def test_each_answer(self):
        for words in some_words():
            for order in some_orders(len(words.things), 5, 61):
                box = Box(words.yard)
                for at, thing in enumerate(order):
                    box.ask(thing)
                    self.check(words, box, paper(box, thing), at)

    def test_all_papers_in_the_order_of_asking(self):
        for words in some_words():
            for order in some_orders(len(words.things), 3, 62):
                box = asked(words.yard, order)
                shown = papers(box)
                self.assertEqual(len(shown), len(order))
                for at, thing in enumerate(order):
                    self.check(words, box, shown[at], at)
                    self.assertEqual(shown[at], paper(box, thing))

    def test_behind_later_asks_and_behind_back(self):
        dice = random.Random(63)
        for words in some_words():
            box = Box(words.yard)
            for step in range(20):
                if len(box) and dice.randrange(3) == 0:
                    box.back()
                elif words.things:
                    box.ask(dice.choice(sorted(words.things)))
                shown = papers(box)
                self.assertEqual(len(shown), len(box))
                for at, thing in enumerate(box.asked()):
                    self.check(words, box, shown[at], at)
                    self.check(words, box, paper(box, thing), at)

    def test_the_judge_takes_them(self):
        for words in some_words():
            for order in some_orders(len(words.things), 2, 64):
                box = asked(words.yard, order)
                self.assertIs(are_right(words.yard, box.answers(), papers(box)), True)
                for at, shown in enumerate(papers(box)):
                    self.assertIs(is_right(words.yard, box.answers()[:at + 1], shown), True)

    def test_of_24_things(self):
        dice = random.Random(65)
        for yard in full_yards():
            box = asked(yard, dice.sample(range(24), 24))
            self.assertIs(are_right(yard, box.answers(), papers(box)), True)
            for word, heap in papers(box):
                self.assertTrue(is_ring(yard, heap) if word == "ring" else is_least_fence(yard, heap))


class Edges(unittest.TestCase):
    def test_ordinary_ones(self):
        box = asked(Ties(3, [(0, 1), (1, 2), (2, 0)]), [1, 0, 2])
        self.assertEqual(papers(box), [("ring", [0, 1, 2]), ("fence", [0, 1]), ("fence", [1, 2])])
        self.assertEqual(papers(asked(Rows([5, 3, 6]), [2, 0])), [("ring", [0, 1, 2]), ("fence", [0, 2])])
        self.assertEqual(papers(asked(Lots([1, 0], [0, 0, 1]), [2, 1, 0])),
                         [("ring", [2]), ("ring", [0, 1]), ("fence", [0, 1])])
        self.assertEqual(papers(asked(Seats(2, [[0], [0, 1]]), [1, 0])), [("fence", [1]), ("fence", [0])])

    def test_idle_and_alike_things(self):
        for yard in one_of_each():
            box = asked(yard, [3, 0, 1])
            self.assertEqual((paper(box, 3), paper(box, 0)), (("ring", [3]), ("ring", [0, 1])))
            self.assertEqual(paper(asked(yard, [0, 1, 2, 3]), 3), ("ring", [3]))
        for yard in (Ties(3, [(0, 1), (1, 0), (1, 2)]), Rows([5, 5, 3]), Lots([1, 2], [0, 0, 1])):
            self.assertEqual(papers(asked(yard, [1, 0, 2])), [("ring", [0, 1]), ("fence", [0, 1]), ("fence", [2])])

    def test_where_nothing_was_asked(self):
        for yard in one_of_each() + without_things():
            self.assertEqual(papers(Box(yard)), [])

    def test_a_paper_goes_by_what_was_told_up_to_its_answer(self):
        # Said no to first, 0 may lean on 1 and on 2, though no is said to 1 later.
        yard = Lots([1], [0, 0, 0])
        box = asked(yard, [0])
        first = paper(box, 0)
        box.play([1, 2])
        self.assertEqual((paper(box, 0), papers(box)[0]), (first, first))
        self.assertEqual(papers(box)[1:], [("ring", [1, 2]), ("fence", [0, 1, 2])])
        self.assertEqual((box.back(), box.back(), paper(box, 0)), (2, 1, first))

    def test_told_again_as_told(self):
        for yard in one_of_each() + [Pairs()]:
            box = asked(yard, yard.things()[::-1])
            self.assertEqual((papers(box), papers(box.copied())), (papers(box), papers(box)))

    def test_a_box_is_not_changed(self):
        for yard in one_of_each():
            box = asked(yard, [1, 3])
            copied = box.copied()
            paper(box, 1)
            papers(box)
            self.assertTrue(box == copied)
            self.assertEqual(box.answers(), copied.answers())


class Refused(Raised, unittest.TestCase):
    def test_no_thing(self):
        for yard in one_of_each():
            for box in (Box(yard), asked(yard, [2, 0, 1, 3])):
                for wrong in no_things(4):
                    self.raised("NoThing", paper, box, wrong, who=wrong)
        for yard in without_things():
            for wrong in no_things(0) + [0]:
                self.raised("NoThing", paper, Box(yard), wrong, who=wrong)

    def test_not_asked(self):
        for yard in one_of_each():
            for thing in range(4):
                self.raised("NotAsked", paper, Box(yard), thing, who=thing)
            box = asked(yard, [2, 0])
            for thing in (1, 3):
                self.raised("NotAsked", paper, box, thing, who=thing)
            self.assertEqual(box.asked(), [2, 0])
            box.back()
            self.raised("NotAsked", paper, box, 0, who=0)
            self.assertEqual(paper(box, 2), papers(box)[0])


class Alone(unittest.TestCase):
    def test_by_names(self):
        box = asked(Rows([5, 5]), [1])
        self.assertEqual(paper(thing=1, box=box), ("ring", [0, 1]))
        self.assertEqual(papers(box=box), [("ring", [0, 1])])

    def test_told_lists_are_the_askers_own(self):
        for yard in one_of_each():
            box = asked(yard, [3, 0, 1, 2])
            told, again, one = papers(box), papers(box), paper(box, 1)
            kept = copy.deepcopy(told)
            lists = [heap for word, heap in told + again] + [one[1], told, again]
            self.assertEqual(len({id(each) for each in lists}), len(lists))
            for word, heap in told:
                heap.append(9)
            told.clear()
            one[1].clear()
            self.assertEqual((again, papers(box)), (kept, kept))
            self.assertEqual([paper(box, thing) for thing in box.asked()], kept)


if __name__ == "__main__":
    unittest.main()
