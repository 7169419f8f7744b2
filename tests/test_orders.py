"""Times, the later heap, the least heap asked last: point [22], and what point [4] says of it."""

import copy
import itertools
import random
import unittest

from anything import no_heaps, no_orders, no_things
from refusals import Raised
from second import full_yards, heaps_of, without_things
from words import Pairs, asked, one_of_each, some_orders, some_words
from noaslong import errors
from noaslong.boxes import Box
from noaslong.least import all_least
from noaslong.lots import Lots
from noaslong.orders import is_later, last_least, order_for
from noaslong.rows import Rows
from noaslong.seats import Seats
from noaslong.ties import Ties


def later_by_words(order, one, other):
    """Whether the one has the thing at the latest time at which just one of both has a thing."""
    times = [order.index(thing) for thing in {*one} ^ {*other}]
    return times != [] and order[max(times)] in one


class Later(unittest.TestCase):
    def test_all_heaps_and_orders_of_few_things(self):
        for many in range(5):
            for order in [list(order) for order in itertools.permutations(range(many))][::1 if many < 4 else 5]:
                for one, other in itertools.product(heaps_of(many), repeat=2):
                    self.assertIs(is_later(order, one, other), later_by_words(order, one, other), (order, one, other))

    def test_of_24_things(self):
        dice = random.Random(91)
        for at in range(40):
            order = dice.sample(range(24), 24)
            one, other = [dice.sample(range(24), dice.randrange(25)) for which in range(2)]
            self.assertIs(is_later(order, one, other), later_by_words(order, one, other))
            self.assertIs(is_later(order, other, one), later_by_words(order, other, one))

    def test_ordinary_ones(self):
        self.assertIs(is_later([0, 1, 2], [2], [0, 1]), True)
        self.assertIs(is_later([2, 1, 0], [2], [0, 1]), False)
        self.assertIs(is_later([0, 1, 2], [1, 2], [0, 2]), True)
        self.assertIs(is_later([0, 1, 2], [0, 2], [2, 1]), False)

    def test_neither_where_they_are_of_the_same_things(self):
        for one, other in (([], []), ([0, 2], [2, 0]), ([1], [1]), ([2, 1, 0], [0, 1, 2])):
            self.assertIs(is_later([1, 0, 2], one, other), False)
            self.assertIs(is_later([1, 0, 2], other, one), False)

    def test_a_heap_is_later_than_a_part_of_it(self):
        self.assertIs(is_later([1, 0, 2], [0, 1], [0]), True)
        self.assertIs(is_later([1, 0, 2], [0], [0, 1]), False)
        self.assertIs(is_later([1, 0, 2], [1], []), True)

    def test_an_order_of_no_things(self):
        self.assertIs(is_later([], [], []), False)


class LastLeast(unittest.TestCase):
    def test_no_least_heap_is_later(self):
        for words in some_words():
            least = words.all_least()
            for order in some_orders(len(words.things), 5, 92):
                told = last_least(words.yard, order)
                self.assertIn(told, least)
                self.assertEqual([heap for heap in least if later_by_words(order, heap, told)], [])
                self.assertEqual([heap for heap in least if is_later(order, heap, told)], [])
                self.assertEqual([heap for heap in least if not is_later(order, told, heap)], [told])

    def test_the_sum_of_its_times_is_the_greatest(self):
        for words in some_words():
            for order in some_orders(len(words.things), 3, 93):
                sums = [sum(order.index(thing) for thing in heap) for heap in words.all_least()]
                told = last_least(words.yard, order)
                self.assertEqual(sum(order.index(thing) for thing in told), max(sums))

    def test_it_is_what_a_box_has_said_yes_to(self):
        for words in some_words():
            for order in some_orders(len(words.things), 5, 94):
                self.assertEqual(last_least(words.yard, order), asked(words.yard, order).yes(), (words.yard, order))

    def test_with_asks_taken_back_between(self):
        dice = random.Random(95)
        for words in some_words()[::2]:
            box = Box(words.yard)
            while len(box) < len(words.things):
                box.ask(dice.choice(box.unasked()))
                if dice.randrange(3) == 0:
                    box.back()
            self.assertEqual(last_least(words.yard, box.asked()), box.yes())

    def test_of_24_things(self):
        dice = random.Random(96)
        for yard in full_yards():
            order = dice.sample(range(24), 24)
            told = last_least(yard, order)
            self.assertEqual(told, asked(yard, order).yes())
            self.assertEqual((yard.worth(told), len(told)), (yard.whole(), yard.whole()))

    def test_of_idle_things_the_order_plays_no_part(self):
        for yard in one_of_each():
            for order in itertools.permutations(range(3)):
                told = {tuple(last_least(yard, [*order[:at], 3, *order[at:]])) for at in range(4)}
                self.assertEqual(len(told), 1)
                self.assertNotIn(3, told.pop())

    def test_ordinary_ones(self):
        self.assertEqual(last_least(Ties(3, [(0, 1), (1, 2), (2, 0)]), [1, 0, 2]), [0, 2])
        self.assertEqual(last_least(Rows([5, 3, 6]), [2, 1, 0]), [0, 1])
        self.assertEqual(last_least(Lots([1, 2], [0, 0, 1]), [1, 2, 0]), [0, 2])
        self.assertEqual(last_least(Seats(2, [[1, 0], [], [1]]), [0, 2, 1]), [0, 2])

    def test_alike_things(self):
        for yard in one_of_each():
            self.assertEqual((last_least(yard, [0, 1, 2, 3]), last_least(yard, [1, 0, 2, 3])), ([1, 2], [0, 2]))

    def test_where_there_are_no_things_or_only_idle_ones(self):
        for yard in without_things():
            self.assertEqual((last_least(yard, []), order_for(yard, [])), ([], []))
        for yard in (Ties(1, [(0, 0)] * 2), Rows([0, 0]), Lots([0], [0, 0]), Seats(1, [[], []])):
            self.assertEqual((last_least(yard, [1, 0]), sorted(order_for(yard, []))), ([], [0, 1]))


class OrderFor(unittest.TestCase):
    def test_each_least_heap_is_asked_last_in_its_order(self):
        for words in some_words():
            for heap in words.all_least():
                order = order_for(words.yard, heap[::-1])
                self.assertEqual(sorted(order), sorted(words.things))
                self.assertEqual(last_least(words.yard, order), heap, (words.yard, heap))
                self.assertEqual(asked(words.yard, order).yes(), heap)

    def test_of_24_things(self):
        dice = random.Random(97)
        for yard in full_yards():
            heap = last_least(yard, dice.sample(range(24), 24))
            order = order_for(yard, heap)
            self.assertEqual((sorted(order), last_least(yard, order)), (list(range(24)), heap))


class Refused(Raised, unittest.TestCase):
    def test_no_order_of_the_yard(self):
        for yards, many in ((one_of_each(), 4), (without_things(), 0), (full_yards()[::6], 24)):
            for yard in yards:
                for wrong in no_orders(many):
                    self.raised("NoOrder", last_least, yard, wrong)

    def test_no_order_of_any_yard(self):
        wrongs = no_heaps(24) + [[1], [0, 2], [1, 2, 3], [0, 1, 3], [-1, 0]]
        wrongs += [list(range(25)), list(range(26))[::-1], list(range(1, 25)), (0, 1), [0, True], [False], [0, "1"],
                   [None, 1], [0, [1]], [0, 0], [1, 0, 1]]
        for wrong in wrongs:
            self.raised("NoOrder", is_later, wrong, [], [])

    def test_orders_of_all_sizes_are_taken(self):
        for many in range(25):
            self.assertIs(is_later(list(range(many))[::-1], [], []), False)

    def test_no_heap_of_so_many_things(self):
        for many in (0, 1, 4, 24):
            order = list(range(many))[::-1]
            for wrong in no_heaps(many):
                self.raised("NoHeap", is_later, order, wrong, [])
                self.raised("NoHeap", is_later, order, [], wrong)
                self.raised("NoHeap", is_later, order, wrong, wrong)

    def test_no_order_goes_first(self):
        for wrong in (None, (0, 1), [0, 0], [1], [True], "01", list(range(25))):
            for heap in (None, (0,), [0, 0], [30], [True], [0]):
                self.raised("NoOrder", is_later, wrong, heap, heap)

    def test_not_least(self):
        for yard in one_of_each():
            for wrong in no_heaps(4) + [[], [0], [2], [0, 1], [0, 3], [0, 1, 2], [0, 2, 3], [3, 2, 1, 0], (0, 2)]:
                self.raised("NotLeast", order_for, yard, wrong)
        for yard in without_things():
            for wrong in no_heaps(0) + [[thing] for thing in no_things(0)]:
                self.raised("NotLeast", order_for, yard, wrong)
        for wrong in no_heaps(24) + [[], list(range(23))]:
            self.raised("NotLeast", order_for, Lots([24], [0] * 24), wrong)


class Alone(unittest.TestCase):
    def test_by_names(self):
        self.assertIs(is_later(other=[0], one=[1], order=[0, 1]), True)
        self.assertEqual(last_least(order=[1, 0], yard=Rows([5, 5])), [0])
        self.assertEqual(order_for(heap=[0], yard=Rows([5, 5])), [1, 0])

    def test_what_is_handed_in_stays(self):
        for yard in one_of_each():
            for lists in ([[3, 1, 0, 2], [2, 0], [1, 2]], [[1, 0], [1], [0, 0]], [[0, 0], [[0], None], []]):
                kept, shown = copy.deepcopy(lists), repr(yard)
                for call in (lambda: is_later(*lists), lambda: last_least(yard, lists[0]),
                             lambda: order_for(yard, lists[1])):
                    try:
                        call()
                    except errors.YardError:
                        pass
                    self.assertEqual((lists, repr(yard)), (kept, shown))

    def test_told_lists_are_the_askers_own(self):
        for yard in one_of_each() + [Pairs()]:
            heap, order = all_least(yard)[0], yard.things()
            for call, given in ((last_least, order), (order_for, heap)):
                told, again = call(yard, given), call(yard, given)
                kept = list(told)
                self.assertIsNot(told, again)
                self.assertIsNot(told, given)
                told.clear()
                self.assertEqual((again, call(yard, given)), (kept, kept))
                given.reverse()
                self.assertEqual(again, kept)


if __name__ == "__main__":
    unittest.main()
