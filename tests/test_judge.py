"""The judge: point [19], and what point [20] says of papers and answers."""

import copy
import itertools
import unittest

from anything import Equal, Odd, no_heaps, no_lists, no_things, no_wholes
from refusals import Raised
from second import full_yards, heaps_of, without_things
from words import one_of_each, some_orders, some_words
from noaslong.boxes import Box
from noaslong.judge import are_right, is_right
from noaslong.papers import papers
from noaslong.rows import Rows
from noaslong.ties import Ties

PAPERS_OF = {True: "fence", False: "ring"}


def all_papers(many):
    return [(word, heap) for word in ("fence", "ring") for heap in heaps_of(many)]


def all_tolds(many):
    """All that may be told of so many things, whether a box would answer so or not."""
    orders = [order for size in range(many + 1) for order in itertools.permutations(range(many), size)]
    return [list(zip(order, truths)) for order in orders
            for truths in itertools.product((True, False), repeat=len(order))]


def no_tolds(many):
    """Values that are no tolds of a yard of so many things, which has some."""
    wrong = no_lists() + [[value] for value in no_lists() + no_wholes()]
    wrong += [[(0, odd)] for odd in (None, 0, 1, "", "yes", "True", [], [True], (), (True,), Odd(), Equal(), bool)]
    wrong += [[(odd, truth)] for odd in no_things(many) for truth in (True, False)]
    wrong += [[[0, True]], [[0, False]], [()], [(0,)], [(True,)], [(0, True, True)], [(True, 0)], ["01"], [{0: True}],
              [(0, True), (0, True)], [(0, True), (0, False)], [(0, False), (many - 1, True), (0, False)],
              [(0, True), None], [(0, True), [many - 1, True]], [(0, True), (many, True)], [(many, True), (0, True)],
              ((0, True),), (), {(0, True)}, {0: True}, iter([(0, True)]), [[(0, True)]]]
    endless = [(0, True)]
    endless.append(endless)
    return wrong + [endless]


def no_words():
    """Values that are none of the two words."""
    near = ["", "Fence", "fences", "fence ", " ring", "rings", "RING", "yes", "no", b"fence", b"ring", "fencering"]
    return near + no_wholes() + [0, 1, ("fence",), ["ring"]]


def no_papers(many):
    """Values that are no papers of a yard of so many things."""
    wrong = no_lists() + [["fence", []], ["ring", [0]], ("fence",), ("ring",), ("fence", [0], [0]), ("ring", [0], None)]
    wrong += [(word, [0]) for word in no_words()]
    wrong += [(word, heap) for word in ("fence", "ring") for heap in no_heaps(many)]
    return wrong + [([0], "fence"), ("fence", "ring"), (("fence", [0]),), [("fence", [0])], "fence", "fence 0"]


class ByWords(unittest.TestCase):
    def test_all_tolds_and_papers_of_yards_of_few_things(self):
        for words in some_words():
            if 0 < len(words.things) <= 3:
                many = len(words.things)
                for told in all_tolds(many)[1:][:: 1 if many < 3 else 5]:
                    for paper in all_papers(many):
                        expected = words.is_right(told, paper)
                        self.assertIs(is_right(words.yard, told, paper), expected, (words.yard, told, paper))

    def test_all_papers_for_the_answers_of_boxes(self):
        for words in some_words():
            if 3 < len(words.things) <= 6:
                for order in some_orders(len(words.things), 0, 71):
                    told = words.answers(order)
                    for end in range(1, len(told) + 1):
                        for paper in all_papers(len(words.things)):
                            expected = words.is_right(told[:end], paper)
                            self.assertIs(is_right(words.yard, told[:end], paper), expected)

    def test_papers_for_answers_that_no_box_gives(self):
        for words in some_words():
            if 3 < len(words.things) <= 5:
                for order in some_orders(len(words.things), 0, 72):
                    for odd in ([True] * len(order), [False] * len(order), [at % 2 == 0 for at in range(len(order))]):
                        told = list(zip(order, odd))
                        for paper in all_papers(len(words.things)):
                            self.assertIs(is_right(words.yard, told, paper), words.is_right(told, paper))


class JustTheBoxes(unittest.TestCase):
    """Point [20]: the answers that have right papers are those of a box."""

    def test_answers_that_all_have_right_papers_are_a_boxes(self):
        for words in some_words():
            many = len(words.things)
            if 0 < many <= 3:
                right = {}
                for told in all_tolds(many):
                    ahead = right.get(tuple(told[:-1]), True)
                    some = not told or any(is_right(words.yard, told, paper) for paper in all_papers(many))
                    right[tuple(told)] = ahead and some
                    expected = told == words.answers([thing for thing, truth in told])
                    self.assertIs(right[tuple(told)], expected, (words.yard, told))

    def test_not_both_a_yes_and_a_no(self):
        for words in some_words():
            if 0 < len(words.things) <= 5:
                for order in some_orders(len(words.things), 1, 73):
                    for end in range(len(order)):
                        told, thing = words.answers(order[:end]), order[end]
                        heaps = heaps_of(len(words.things))
                        yes = any(is_right(words.yard, told + [(thing, True)], ("fence", heap)) for heap in heaps)
                        no = any(is_right(words.yard, told + [(thing, False)], ("ring", heap)) for heap in heaps)
                        self.assertEqual((yes, no), (not no, not yes), (words.yard, told, thing))
                        self.assertIs(yes, words.answers(order[:end + 1])[-1][1])

    def test_of_24_things(self):
        for yard in full_yards():
            box = Box(yard)
            box.play([thing * 5 % 24 for thing in range(24)])
            told, shown = box.answers(), papers(box)
            self.assertIs(are_right(yard, told, shown), True)
            for at in (0, 11, 23):
                thing, truth = told[at]
                turned = told[:at] + [(thing, not truth)]
                self.assertIs(is_right(yard, turned, shown[at]), False)
                self.assertIs(is_right(yard, turned, (PAPERS_OF[not truth], shown[at][1])), False)


class Edges(unittest.TestCase):
    # A triangle of ties, and an idle one.
    YARD = Ties(3, [(0, 1), (1, 2), (2, 0), (1, 1)])

    def right(self, told, paper):
        return is_right(self.YARD, told, paper)

    def test_fences(self):
        told = [(0, False), (1, True)]
        self.assertIs(self.right(told, ("fence", [0, 1])), True)
        self.assertIs(self.right(told, ("fence", [1, 0])), True)
        self.assertIs(self.right(told, ("ring", [0, 1])), False)

    def test_a_fence_need_not_be_least_but_be_a_fence(self):
        told = [(0, False), (3, False), (1, True)]
        self.assertIs(self.right(told, ("fence", [0, 1, 3])), True)
        self.assertIs(self.right(told, ("fence", [1])), False)
        self.assertIs(self.right(told, ("fence", [1, 3])), False)

    def test_a_fence_that_lacks_the_thing(self):
        self.assertIs(self.right([(0, False), (1, False), (2, True)], ("fence", [0, 1])), False)
        self.assertIs(self.right([(0, False), (1, False), (2, True)], ("fence", [0, 2])), True)
        self.assertIs(self.right([(0, False), (2, True)], ("fence", [])), False)

    def test_a_fence_with_a_thing_to_which_yes_was_told(self):
        told = [(0, False), (1, True), (2, True)]
        self.assertIs(self.right(told, ("fence", [0, 2])), True)
        self.assertIs(self.right(told, ("fence", [1, 2])), False)
        self.assertIs(self.right(told, ("fence", [0, 1, 2])), False)

    def test_a_fence_with_a_thing_of_which_nothing_was_told(self):
        self.assertIs(self.right([(2, True)], ("fence", [1, 2])), False)
        self.assertIs(self.right([(0, False), (2, True)], ("fence", [0, 1, 2])), False)

    def test_rings(self):
        self.assertIs(self.right([(0, False)], ("ring", [0, 1, 2])), True)
        self.assertIs(self.right([(0, False)], ("ring", [2, 0, 1])), True)
        self.assertIs(self.right([(0, False)], ("fence", [0, 1, 2])), False)
        self.assertIs(self.right([(1, True), (2, True), (0, False)], ("ring", [0, 1, 2])), True)
        self.assertIs(self.right([(0, False)], ("ring", [0, 1])), False)

    def test_what_stands_as_a_ring_need_not_be_least(self):
        self.assertIs(self.right([(0, False)], ("ring", [0, 1, 2, 3])), True)
        self.assertIs(self.right([(3, False)], ("ring", [0, 3])), True)

    def test_a_ring_that_lacks_the_thing(self):
        self.assertIs(self.right([(0, False)], ("ring", [1, 2])), False)
        self.assertIs(self.right([(0, False)], ("ring", [])), False)
        self.assertIs(self.right([(0, False)], ("ring", [3])), False)

    def test_a_ring_with_a_thing_to_which_no_was_told(self):
        self.assertIs(self.right([(1, False), (0, False)], ("ring", [0, 1, 2])), False)
        self.assertIs(self.right([(3, False), (0, False)], ("ring", [0, 1, 2, 3])), False)
        self.assertIs(self.right([(3, False), (0, False)], ("ring", [0, 1, 2])), True)

    def test_idle_things(self):
        for yard in one_of_each():
            self.assertIs(is_right(yard, [(3, False)], ("ring", [3])), True)
            self.assertIs(is_right(yard, [(2, True), (3, False)], ("ring", [3])), True)
            for heap in heaps_of(4):
                self.assertIs(is_right(yard, [(3, True)], ("fence", heap)), False)

    def test_the_answers_ahead_may_be_no_boxes(self):
        # No box says yes to an idle thing, or no to all.
        self.assertIs(self.right([(3, True), (0, False), (1, True)], ("fence", [0, 1])), True)
        self.assertIs(self.right([(3, True), (0, False)], ("ring", [0, 1, 2])), True)
        self.assertIs(self.right([(0, False), (1, False), (2, True)], ("fence", [0, 1, 2])), True)

    def test_only_the_last_answer_is_judged(self):
        told = [(0, False), (1, True), (2, True)]
        self.assertIs(self.right(told[:2], ("fence", [0, 1])), True)
        self.assertIs(self.right(told, ("fence", [0, 1])), False)
        self.assertIs(self.right(told[:1], ("ring", [0, 1, 2])), True)
        self.assertIs(self.right(told, ("ring", [0, 1, 2])), False)


class AreRight(unittest.TestCase):
    def test_papers_of_boxes(self):
        for words in some_words():
            for order in some_orders(len(words.things), 3, 74):
                box = Box(words.yard)
                box.play(order)
                self.assertIs(are_right(words.yard, box.answers(), papers(box)), True, (words.yard, order))

    def test_each_must_be_right_for_its_own(self):
        for yard in one_of_each():
            for order in itertools.permutations(range(4)):
                box = Box(yard)
                box.play(list(order))
                told, shown = box.answers(), papers(box)
                for at in range(4):
                    for wrong in (None, ("fence", []), ("ring", []), (PAPERS_OF[not told[at][1]], shown[at][1])):
                        self.assertIs(are_right(yard, told, shown[:at] + [wrong] + shown[at + 1:]), False)
                    turned = told[:at] + [(told[at][0], not told[at][1])] + told[at + 1:]
                    self.assertIs(are_right(yard, turned, shown), False)

    def test_papers_in_another_order(self):
        yard = one_of_each()[0]
        box = Box(yard)
        box.play([0, 1, 2, 3])
        told, shown = box.answers(), papers(box)
        right = [list(some) for some in itertools.permutations(shown) if are_right(yard, told, list(some))]
        self.assertEqual(right, [shown])

    def test_as_many_papers_as_answers(self):
        for yard in one_of_each():
            box = Box(yard)
            box.play([2, 0, 3])
            told, shown = box.answers(), papers(box)
            self.assertIs(are_right(yard, told, shown), True)
            for wrong in ([], shown[:2], shown[1:], shown + [shown[-1]], shown + [None], shown * 2):
                self.assertIs(are_right(yard, told, wrong), False)
            self.assertIs(are_right(yard, told[:2], shown), False)
            self.assertIs(are_right(yard, told[:2], shown[:2]), True)

    def test_of_nothing(self):
        for yard in one_of_each() + without_things():
            self.assertIs(are_right(yard, [], []), True)
            for wrong in ([None], [("fence", [])], [("ring", [])], [[]]):
                self.assertIs(are_right(yard, [], wrong), False)

    def test_of_anything_as_papers(self):
        for yard in one_of_each():
            for wrong in no_lists() + [[value] for value in no_papers(4)]:
                self.assertIs(are_right(yard, [(3, False)], wrong), False)
            for wrong in no_lists():
                self.assertIs(are_right(yard, [], wrong), False)
            self.assertIs(are_right(yard, [(3, False)], (("ring", [3]),)), False)
            self.assertIs(are_right(yard, [(3, False)], [("ring", [3])]), True)


class NoPaper(unittest.TestCase):
    def test_it_is_not_right(self):
        for yard in one_of_each():
            for told in ([(3, False)], [(0, False), (1, True)], [(0, False)], [(0, True)]):
                for wrong in no_papers(4):
                    self.assertIs(is_right(yard, told, wrong), False)

    def test_the_word_is_one_of_the_two_though_the_heap_be_right(self):
        for yard in one_of_each():
            for told, word, heap in (([(3, False)], "ring", [3]), ([(0, False), (1, True)], "fence", [0, 1])):
                self.assertIs(is_right(yard, told, (word, heap)), True)
                for wrong in no_words():
                    self.assertIs(is_right(yard, told, (wrong, heap)), False)
                for wrong in ([word, heap], (word, tuple(heap)), (word, heap, heap), (heap, word), {word: heap}):
                    self.assertIs(is_right(yard, told, wrong), False)

    def test_true_is_not_1_in_a_heap(self):
        yard = Rows([1, 1])
        self.assertIs(is_right(yard, [(1, False)], ("ring", [0, 1])), True)
        for heap in ([0, True], [False, 1], (0, 1), [0, 1, 1], [0, 1, 2]):
            self.assertIs(is_right(yard, [(1, False)], ("ring", heap)), False)


class Refused(Raised, unittest.TestCase):
    def test_no_told(self):
        for yard in one_of_each():
            for wrong in no_tolds(4):
                self.raised("NoTold", is_right, yard, wrong, ("ring", [3]))
                self.raised("NoTold", are_right, yard, wrong, [("ring", [3])])

    def test_a_told_of_nothing(self):
        for yard in one_of_each() + without_things():
            for paper in (("ring", [3]), ("fence", []), None, [], 0):
                self.raised("NoTold", is_right, yard, [], paper)

    def test_where_there_are_no_things_or_24(self):
        for yard in without_things():
            for wrong in ([(0, True)], [(0, False)], [(-1, True)], [()], None, ()):
                self.raised("NoTold", is_right, yard, wrong, ("fence", []))
                self.raised("NoTold", are_right, yard, wrong, [("fence", [])])
        for yard in full_yards()[::6]:
            for wrong in no_tolds(24):
                self.raised("NoTold", is_right, yard, wrong, ("fence", [0]))

    def test_it_goes_ahead_of_what_is_no_paper(self):
        for yard in one_of_each():
            for wrong in (None, [(0, 1)], [(4, True)], [(0, True), (0, True)], ((0, True),), [[0, True]]):
                for paper in (None, 7, "fence", [("fence", [0])], ("fence", [9])):
                    self.raised("NoTold", is_right, yard, wrong, paper)
                    self.raised("NoTold", are_right, yard, wrong, paper)


class Alone(unittest.TestCase):
    def test_by_names(self):
        yard = Rows([5, 5])
        self.assertIs(is_right(paper=("ring", [0, 1]), told=[(0, False)], yard=yard), True)
        self.assertIs(are_right(papers=[("ring", [0, 1])], told=[(0, False)], yard=yard), True)

    def test_what_is_handed_in_stays(self):
        for yard in one_of_each():
            told, shown = [(2, True), (1, False), (0, True)], [("fence", [2]), ("ring", [1, 0]), ("fence", [1, 0])]
            kept, name = copy.deepcopy((told, shown)), repr(yard)
            first = [are_right(yard, told, shown)] + [is_right(yard, told, paper) for paper in shown]
            self.assertEqual(((told, shown), repr(yard)), (kept, name))
            self.assertEqual([are_right(yard, told, shown)] + [is_right(yard, told, paper) for paper in shown], first)


if __name__ == "__main__":
    unittest.main()
