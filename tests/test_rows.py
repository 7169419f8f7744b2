"""Rows of bits."""

import itertools
import unittest

from anything import no_lists, no_wholes
from refusals import Refusals
from second import heaps_of, rows_worth, rows_worth_by_words, small_rows
from noaslong.rows import Rows

NO_ROWS = [-1, -4095, 4096, 4097, 8191, 10 ** 29, [0], (0,), [[0]]] + no_wholes()


class Made(unittest.TestCase):
    def test_told_as_handed_in(self):
        rows = [4095, 0, 7, 7]
        self.assertEqual(Rows(rows).rows(), rows)

    def test_by_name(self):
        self.assertTrue(Rows(rows=[5]) == Rows([5]))

    def test_edges(self):
        self.assertEqual(Rows([]).rows(), [])
        self.assertEqual(Rows([0, 4095]).rows(), [0, 4095])
        self.assertEqual(Rows([4095] * 24).many(), 24)

    def test_repr(self):
        self.assertEqual(repr(Rows([5, 0])), "Rows([5, 0])")
        self.assertEqual(repr(Rows([])), "Rows([])")
        self.assertEqual(repr(Rows([4095])), "Rows([4095])")

    def test_equal(self):
        for other in (Rows([3, 5]), Rows([5]), Rows([5, 3, 3]), Rows([5, 2]), Rows([])):
            self.assertIs(Rows([5, 3]) == other, False)
            self.assertIs(Rows([5, 3]) != other, True)


class Alone(unittest.TestCase):
    def test_what_is_handed_in_stays_and_may_be_changed(self):
        rows = [6, 5]
        yard = Rows(rows)
        self.assertEqual(rows, [6, 5])
        rows[0] = 0
        rows.append(1)
        self.assertEqual((yard.rows(), yard.many(), yard.worth([0, 1])), ([6, 5], 2, 2))

    def test_told_lists_may_be_changed(self):
        yard = Rows([6, 5])
        yard.rows().clear()
        yard.rows()[0] = 0
        self.assertEqual((yard.rows(), yard.worth([0, 1])), ([6, 5], 2))
        self.assertIsNot(yard.rows(), yard.rows())


class Worth(unittest.TestCase):
    def test_single_rows(self):
        yard = Rows(list(range(24)))
        self.assertEqual([yard.worth([thing]) for thing in range(24)], [0] + [1] * 23)
        self.assertEqual([Rows([row]).whole() for row in (0, 1, 2048, 4095)], [0, 1, 1, 1])

    def test_the_words_of_the_document(self):
        for yard in small_rows():
            for heap in heaps_of(yard.many()):
                rows = [yard.rows()[thing] for thing in heap]
                self.assertEqual(yard.worth(heap), rows_worth_by_words(rows), (yard, heap))

    def test_rows_alike_and_sums(self):
        self.assertEqual(Rows([5, 5, 5]).whole(), 1)
        self.assertEqual(Rows([5, 3, 6]).whole(), 2)
        self.assertEqual(Rows([1, 2, 4, 7]).whole(), 3)
        self.assertEqual(Rows([0, 0]).whole(), 0)

    def test_twelve_bits_at_most(self):
        single = [1 << at for at in range(12)]
        self.assertEqual(Rows(single).whole(), 12)
        self.assertEqual(Rows(single[::-1] + single).whole(), 12)
        self.assertEqual(Rows([4095] + single).whole(), 12)
        self.assertEqual(Rows([4095 >> at for at in range(12)]).whole(), 12)

    def test_any_order_of_rows(self):
        for rows in itertools.permutations((12, 10, 6, 7, 4095)):
            self.assertEqual(Rows(list(rows)).whole(), rows_worth(rows))


class Refused(Refusals, unittest.TestCase):
    def test_things(self):
        for wrong in no_lists():
            self.refused(Rows, [wrong], "things", None)

    def test_many_and_each_thing(self):
        self.refused_things(Rows, [], 4095, NO_ROWS)
        self.refused_things(Rows, [], 0, NO_ROWS)

    def test_fields_of_whom(self):
        self.refused(Rows, [[1, 4096, -1, None]], "thing", 1)
        self.refused(Rows, [[1, 1, True]], "thing", 2)


if __name__ == "__main__":
    unittest.main()
