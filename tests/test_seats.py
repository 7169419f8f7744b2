"""Things on seats."""

import itertools
import unittest

from anything import no_heaps, no_lists, no_wholes
from refusals import Refusals
from second import full_yards, heaps_of, seats_worth, small_seats, some_heaps
from noaslong import errors
from noaslong.seats import Seats, sitting

NO_SEATS = [-1, -12, 13, 14, 100, 10 ** 29] + no_wholes()


class Made(unittest.TestCase):
    def test_told_as_handed_in(self):
        rows = [[2, 0], [], [1], [0, 1, 2]]
        yard = Seats(3, rows)
        self.assertEqual((yard.seats(), yard.rows()), (3, rows))

    def test_by_names(self):
        self.assertTrue(Seats(seats=2, rows=[[1]]) == Seats(2, [[1]]))
        self.assertTrue(Seats(rows=[[1]], seats=2) == Seats(2, [[1]]))

    def test_edges(self):
        for seats in range(13):
            yard = Seats(seats, [list(range(seats))] * 24)
            self.assertEqual((yard.seats(), yard.many(), yard.whole()), (seats, 24, seats))
        self.assertEqual(Seats(0, [[], []]).whole(), 0)

    def test_repr(self):
        self.assertEqual(repr(Seats(2, [[1, 0], []])), "Seats(2, [[1, 0], []])")
        self.assertEqual(repr(Seats(0, [])), "Seats(0, [])")
        self.assertEqual(repr(Seats(12, [[11]])), "Seats(12, [[11]])")

    def test_equal(self):
        yard = Seats(2, [[0, 1], []])
        for other in (Seats(3, [[0, 1], []]), Seats(2, [[1, 0], []]), Seats(2, [[], [0, 1]]), Seats(2, [[0, 1]]),
                      Seats(2, [[0, 1], [], []]), Seats(2, [[0], [1]]), Seats(2, [])):
            self.assertIs(yard == other, False)
            self.assertIs(yard != other, True)


class Alone(unittest.TestCase):
    def test_what_is_handed_in_stays_and_may_be_changed(self):
        row = [1, 0]
        rows = [row, row, []]
        yard = Seats(2, rows)
        self.assertEqual(rows, [[1, 0], [1, 0], []])
        row.clear()
        rows[2].append(1)
        rows.append([0])
        self.assertEqual((yard.rows(), yard.many(), yard.whole()), ([[1, 0], [1, 0], []], 3, 2))

    def test_told_lists_may_be_changed(self):
        row = [1, 0]
        yard = Seats(2, [row, row])
        told = yard.rows()
        self.assertIsNot(told[0], told[1])
        told[0].clear()
        self.assertEqual(told[1], [1, 0])
        yard.rows().clear()
        sitting(yard, [0, 1]).clear()
        self.assertEqual((yard.rows(), yard.whole(), len(sitting(yard, [0, 1]))), ([[1, 0], [1, 0]], 2, 2))


class Worth(unittest.TestCase):
    def test_others_move_on(self):
        yard = Seats(3, [[0, 1], [0, 2], [0]])
        self.assertEqual((yard.worth([0, 1]), yard.worth([2, 0]), yard.whole()), (2, 2, 3))
        chain = Seats(12, [[at, at + 1] for at in range(11)] + [[0]])
        self.assertEqual(chain.whole(), 12)

    def test_things_alike_and_a_thing_without_seats(self):
        yard = Seats(3, [[1], [1], [], [1, 1 + 1], [2]])
        self.assertEqual((yard.worth([0, 1]), yard.worth([2]), yard.worth([0, 1, 3, 4]), yard.whole()), (1, 0, 2, 2))

    def test_all_ways_to_sit(self):
        for yard in small_seats():
            for heap in heaps_of(yard.many()):
                self.assertEqual(yard.worth(heap), seats_worth([yard.rows()[thing] for thing in heap]), (yard, heap))

    def test_any_order_of_seats(self):
        for rows in itertools.product(itertools.permutations(range(3), 2), repeat=3):
            told = [list(row) for row in rows]
            self.assertEqual(Seats(3, told).whole(), Seats(3, [sorted(row) for row in told]).whole())


class Sitting(unittest.TestCase):
    def check(self, yard, heap):
        told = sitting(yard, heap)
        self.assertIs(type(told), list)
        self.assertTrue(all(type(pair) is tuple and len(pair) == 2 for pair in told))
        things, seats = [thing for thing, seat in told], [seat for thing, seat in told]
        self.assertEqual(things, sorted(set(things)))
        self.assertEqual(len(set(seats)), len(seats))
        self.assertLessEqual(set(things), set(heap))
        for thing, seat in told:
            self.assertIn(seat, yard.rows()[thing])
        self.assertEqual(len(told), seats_worth([yard.rows()[thing] for thing in heap]))
        self.assertEqual(len(told), yard.worth(heap))
        self.assertEqual(sitting(yard, heap), told)

    def test_all_heaps_of_small_yards(self):
        for yard in small_seats():
            for heap in heaps_of(yard.many()):
                self.check(yard, heap)
                self.check(yard, heap[::-1])

    def test_yards_of_24_things(self):
        for yard in full_yards():
            if isinstance(yard, Seats):
                for heap in some_heaps(24, 6, 12):
                    self.check(yard, heap)

    def test_told_again_as_told(self):
        yard, again = Seats(3, [[0, 1], [1, 2], [2, 0], [1]]), Seats(3, [[0, 1], [1, 2], [2, 0], [1]])
        told = [sitting(yard, heap) for heap in heaps_of(4)]
        self.assertEqual([sitting(yard, heap) for heap in heaps_of(4)], told)
        self.assertEqual([sitting(yard, heap[::-1]) for heap in heaps_of(4)], told)
        self.assertEqual([sitting(again, heap) for heap in heaps_of(4)], told)
        self.assertTrue(yard == again)

    def test_of_nothing(self):
        self.assertEqual(sitting(Seats(3, [[0]]), []), [])
        self.assertEqual(sitting(Seats(0, []), []), [])
        self.assertEqual(sitting(Seats(0, [[], []]), [1, 0]), [])

    def test_by_names(self):
        self.assertEqual(sitting(heap=[1], yard=Seats(2, [[], [1]])), [(1, 1)])
        self.assertEqual(sitting(yard=Seats(2, [[], [1]]), heap=[0]), [])

    def test_no_heap(self):
        for many in (0, 1, 3, 24):
            yard = Seats(2, [[0, 1]] * many)
            for wrong in no_heaps(many):
                with self.assertRaises(errors.NoHeap):
                    sitting(yard, wrong)
            self.assertTrue(yard == Seats(2, [[0, 1]] * many))

    def test_what_is_handed_in_stays(self):
        heap = [2, 0, 1]
        sitting(Seats(2, [[0]] * 3), heap)
        self.assertEqual(heap, [2, 0, 1])


class Refused(Refusals, unittest.TestCase):
    def test_seats(self):
        for wrong in NO_SEATS:
            self.refused(Seats, [wrong, []], "seats", None)

    def test_things(self):
        for wrong in no_lists():
            self.refused(Seats, [3, wrong], "things", None)

    def test_many_and_each_thing(self):
        for seats in (0, 1, 3, 12):
            self.refused_things(Seats, [seats], list(range(seats))[::-1], no_heaps(seats))

    def test_seats_go_first(self):
        for wrong in NO_SEATS:
            for rows in (None, ([0],), [[]] * 25, [None], [[], [0, 0]]):
                self.refused(Seats, [wrong, rows], "seats", None)

    def test_fields_of_whom(self):
        self.refused(Seats, [3, [[0], [], [0, 1, 0], [3], None]], "thing", 2)
        self.refused(Seats, [3, [[0], [3], (0,)]], "thing", 1)
        self.refused(Seats, [3, [(0,), [3]]], "thing", 0)


if __name__ == "__main__":
    unittest.main()
