"""Histories of boxes: point [30], and what point [4] says of them."""

import random
import unittest

from anything import no_texts
from refusals import Raised
from second import full_layers, full_yards, without_things
from words import asked, one_of_each, some_orders, some_words, yards_of_four
from noaslong.boxes import Box
from noaslong.eager import Eager
from noaslong.rows import Rows
from noaslong.texts import history, read_history
from noaslong.ties import Ties

KINDS = ((Box, False), (Eager, True))


def spoilt_by(said, text):
    """The row by which a text is no history of a yard of four things, the second way; said tells what a box says."""
    rows = text.split("\n")
    order = []
    for at, row in enumerate(rows[:-1], start=1):
        words = row.split(" ")
        if len(words) != 2 or words[0] not in ("0", "1", "2", "3") or int(words[0]) in order:
            return at
        order.append(int(words[0]))
        if words[1] != ("yes" if said(order)[-1][1] else "no"):
            return at
    return len(rows) if rows[-1] else None


class Written(unittest.TestCase):
    def test_ordinary_ones(self):
        yard = Ties(3, [(0, 1), (1, 2), (2, 0)])
        self.assertEqual(history(asked(yard, [1, 0, 2])), "1 no\n0 yes\n2 yes\n")
        self.assertEqual(history(asked(yard, [1, 0, 2], Eager)), "1 yes\n0 yes\n2 no\n")
        self.assertTrue(read_history(yard, "1 no\n0 yes\n") == asked(yard, [1, 0]))
        self.assertTrue(read_history(yard, "1 yes\n0 yes\n", eager=True) == asked(yard, [1, 0], Eager))

    def test_of_no_asks(self):
        for yard in yards_of_four() + without_things():
            for kind, eager in KINDS:
                self.assertEqual(history(kind(yard)), "")
                read = read_history(yard, "", eager=eager)
                self.assertTrue(read == kind(yard))
                self.assertIs(type(read), kind)

    def test_read_again_it_is_an_equal_box(self):
        for kind, eager in KINDS:
            for words in some_words():
                said = words.eager_answers if eager else words.answers
                for order in some_orders(len(words.things), 2, 111):
                    for end in range(len(order) + 1):
                        box = asked(words.yard, order[:end], kind)
                        text = history(box)
                        expected = [f"{thing} {'yes' if truth else 'no'}\n" for thing, truth in said(order[:end])]
                        self.assertEqual(text, "".join(expected))
                        again = read_history(words.yard, text, eager=eager)
                        self.assertIs(type(again), kind)
                        self.assertTrue(again == box)
                        self.assertEqual((again.answers(), history(again)), (box.answers(), text))

    def test_of_24_things(self):
        dice = random.Random(112)
        for kind, eager in KINDS:
            for yard in full_yards()[::3] + full_layers()[::2]:
                box = asked(yard, dice.sample(range(24), 24), kind)
                self.assertTrue(read_history(yard, history(box), eager=eager) == box)

    def test_behind_back_and_asks_told_again(self):
        for kind, eager in KINDS:
            for yard in yards_of_four():
                box = asked(yard, [3, 1, 3, 0], kind)
                box.back()
                self.assertTrue(read_history(yard, history(box), eager=eager) == asked(yard, [3, 1], kind))

    def test_a_read_box_goes_on_alone(self):
        for kind, eager in KINDS:
            for yard in yards_of_four():
                box = asked(yard, [2, 0], kind)
                text = history(box)
                one, other = read_history(yard, text, eager=eager), read_history(yard, text, eager=eager)
                self.assertEqual(one.play([1, 3]), box.play([1, 3]))
                self.assertEqual((one.back(), one.back(), one.back()), (3, 1, 0))
                self.assertEqual((other.asked(), box.asked()), ([2, 0], [2, 0, 1, 3]))

    def test_by_names(self):
        yard = Rows([5, 5])
        self.assertTrue(read_history(text="1 no\n", yard=yard) == asked(yard, [1]))
        self.assertTrue(read_history(text="1 no\n", yard=yard, eager=False) == asked(yard, [1]))
        self.assertEqual(history(box=asked(yard, [1])), "1 no\n")
        with self.assertRaises(TypeError):
            read_history(yard, "", True)


class Spoilt(Raised, unittest.TestCase):
    def refused(self, yard, text, row, eager=False):
        self.raised("NoText", lambda: read_history(yard, text, eager=eager), row=row)

    def test_the_row_that_is_told(self):
        # Of both kinds: 3 no comes always; a box says 0 no, 1 yes, 2 yes, an eager one 0 yes, 1 no, 2 yes.
        for yard in one_of_each():
            for text, row in (("3 no", 1), ("3 no\n\n", 2), ("\n", 1), ("\n3 no\n", 1), ("3 no\n3 no\n", 2),
                              ("3 yes\n", 1), ("3\n", 1), ("3 \n", 1), ("3 no \n", 1), (" 3 no\n", 1), ("3  no\n", 1),
                              ("03 no\n", 1), ("4 no\n", 1), ("-1 no\n", 1), ("no 3\n", 1), ("no\n", 1), ("3 No\n", 1),
                              ("3 nope\n", 1), ("3 no 2\n", 1), ("2 yes\n3 no\n2 yes\n", 3), ("2 yes\n3 no\n4 no\n", 3),
                              ("2 yes\n3 no\n0", 3), ("2 no\n", 1), ("x\n", 1), (" ", 1), ("3 no\n ", 2),
                              ("2 yes\n3 no\n3 yes\n", 3), ("+3 no\n", 1), ("3no\n", 1), ("True no\n", 1),
                              ("9999999999999999999999999999 no\n", 1), ("9" * 5000 + " no\n", 1),
                              ("4 no\n3 no", 1), ("3 no\nx\n4 no", 2), ("2 yes\n3 yes\n0", 2)):
                for kind, eager in KINDS:
                    self.refused(yard, text, row, eager)

    def test_what_the_other_kind_says(self):
        for yard in one_of_each():
            self.refused(yard, "0 yes\n", 1)
            self.refused(yard, "0 no\n", 1, eager=True)
            self.refused(yard, "0 no\n1 no\n", 2)
            self.refused(yard, "0 yes\n1 yes\n", 2, eager=True)
            self.refused(yard, "2 yes\n3 no\n0 yes\n1 no\n", 3)
            self.refused(yard, "2 yes\n3 no\n0 no\n1 yes\n", 3, eager=True)

    def test_what_a_yard_without_things_has(self):
        for yard in without_things():
            for text in ("0 no\n", "0 yes\n", "\n", "x"):
                for kind, eager in KINDS:
                    self.refused(yard, text, 1, eager)

    def test_no_texts(self):
        for wrong in no_texts() + [b"", b"0 no\n", ["0 no\n"], [(0, False)], Rows([5])]:
            for kind, eager in KINDS:
                self.refused(Rows([5, 5]), wrong, 0, eager)

    def test_each_row_changed_dropped_or_told_again(self):
        dice = random.Random(113)
        right = 0
        for words in [words for words in some_words() if len(words.things) == 4]:
            for kind, eager in KINDS:
                said = words.eager_answers if eager else words.answers
                text = history(asked(words.yard, dice.sample(range(4), 4), kind))
                for turn in range(10):
                    rows = text.split("\n")
                    at = dice.randrange(len(rows))
                    rows[at:at + dice.randrange(2)] = dice.choice([[], ["0 yes"], ["1 no"], ["2 no"], ["3 yes"], [""],
                                                                   ["4 no"], ["0  no"], rows[:1], rows[-2:-1]])
                    spoilt = "\n".join(rows)
                    row = spoilt_by(said, spoilt)
                    if row is None:
                        right += 1
                        self.assertEqual(history(read_history(words.yard, spoilt, eager=eager)), spoilt)
                    else:
                        self.refused(words.yard, spoilt, row, eager)
        self.assertGreater(right, 50)

    def test_all_beginnings_and_signs(self):
        for words in [words for words in some_words() if len(words.things) == 4][::6]:
            for kind, eager in KINDS:
                said = words.eager_answers if eager else words.answers
                text = history(asked(words.yard, [2, 0, 3, 1], kind))
                for at in range(len(text) + 1):
                    for spoilt in [text[:at]] + [text[:at] + sign + text[at:] for sign in " \n0n"]:
                        row = spoilt_by(said, spoilt)
                        if row is None:
                            self.assertEqual(history(read_history(words.yard, spoilt, eager=eager)), spoilt)
                        else:
                            self.refused(words.yard, spoilt, row, eager)

    def test_what_is_handed_in_stays(self):
        for kind, eager in KINDS:
            for yard in yards_of_four():
                shown, box = repr(yard), asked(yard, [2, 0], kind)
                before = box.copied()
                history(box)
                self.refused(yard, "2", 1, eager)
                self.assertTrue(box == before)
                self.assertEqual((repr(yard), history(box)), (shown, history(before)))


if __name__ == "__main__":
    unittest.main()
