"""The desk: point [31]."""

import copy
import random
import unittest

from anything import no_names, no_texts
from refusals import Raised
from second import full_yards, heaps_of, without_things
from words import one_of_each
from noaslong import errors
from noaslong.beside import Beside
from noaslong.boxes import Box
from noaslong.desk import Desk
from noaslong.eager import Eager
from noaslong.mirrors import Mirror
from noaslong.openness import is_open
from noaslong.papers import paper
from noaslong.parts import Part
from noaslong.rests import rest_of
from noaslong.rows import Rows
from noaslong.texts import history, yard_text
from noaslong.ties import Ties

RING = "yard ring\nties 3\n0 1\n1 2\n2 0\n1 1\n"
# Each row that there is, with names that the desk below keeps, in an order in which none is refused.
EACH = ("yard new\nrows\n5\n", "mirror new ring", "part new ring away 0 2 granted 1", "beside new ring rows",
        "show ring", "worth ring 0 1", "box new ring", "eager new ring", "copy new box", "left new box", "ask box 2 3",
        "back box", "yes box", "no box", "unasked box", "paper box 1", "open box", "history box")


def kept_desk():
    """A desk that keeps three yards, a box and an eager one, of which two things were asked."""
    desk = Desk()
    for row in (RING, "yard rows\nrows\n5\n5\n3\n0\n", "mirror deep ring", "mirror deep deep", "mirror deep deep",
                "mirror deep deep", "box box ring", "ask box 1 0", "eager eager ring", "ask eager 1 0"):
        desk.say(row)
    return desk


def state(desk):
    """All that a desk tells of what it keeps by the names used here, asked of a copy; and its log."""
    told, twin = [], copy.deepcopy(desk)
    for name in ("ring", "rows", "deep", "box", "eager", "new", "a", "b", "c"):
        for row in (f"show {name}", f"worth {name} 0 1", f"mirror tmp {name}", f"history {name}", f"open {name}",
                    f"unasked {name}"):
            try:
                told.append(twin.say(row))
            except (ValueError, LookupError) as refusal:
                told.append((type(refusal), vars(refusal)))
    return (told, desk.log())


class Told(unittest.TestCase):
    def said(self, *pairs):
        desk = Desk()
        for row, answer in pairs:
            self.assertEqual(desk.say(row), answer, row)
        return desk

    def test_an_ordinary_day(self):
        self.said((RING, "ok"), ("show ring", "ties 3\n0 1\n1 2\n2 0\n1 1\n"), ("worth ring 0 1 2 3", "2"),
                  ("worth ring 3", "0"), ("worth ring 2 0", "2"), ("worth ring", "0"), ("box b ring", "ok"),
                  ("unasked b", "0 1 2 3"), ("yes b", ""), ("no b", ""), ("history b", ""), ("open b", "open"),
                  ("ask b 1 0", "no yes"), ("ask b 1", "no"), ("yes b", "0"), ("no b", "1"), ("unasked b", "2 3"),
                  ("history b", "1 no\n0 yes\n"), ("paper b 1", "ring 0 1 2"), ("paper b 0", "fence 0 1"),
                  ("ask b 2 2", "yes yes"), ("open b", "settled"), ("yes b", "0 2"), ("back b", "2"),
                  ("open b", "open"), ("back b", "0"), ("back b", "1"), ("history b", ""))

    def test_yards_of_each_sort(self):
        for yard in one_of_each() + without_things() + full_yards():
            self.said((f"yard y\n{yard_text(yard)}", "ok"), ("show y", yard_text(yard)), ("worth y", "0"),
                      (" ".join(["worth", "y", *map(str, yard.things()[::-1])]), str(yard.whole())))

    def test_layered_yards(self):
        self.said(("yard y\nrows\n5\n3\n6\n", "ok"), ("mirror m y", "ok"), ("worth m 0 1", "1"), ("worth m 0 1 2", "1"),
                  ("part p y away 0 granted 1", "ok"), ("worth p 0", "1"), ("part p y away 0 2 granted", "ok"),
                  ("worth p 0", "1"), ("part p y away granted 2 0", "ok"), ("worth p 0", "0"),
                  ("part p y away granted", "ok"), ("worth p 0 1 2", "2"), ("part p y away 2 1 0 granted", "ok"),
                  ("worth p", "0"), ("beside q y m", "ok"), ("worth q 0 1 2 3 4 5", "3"), ("worth q 5", "1"),
                  ("mirror y y", "ok"), ("worth y 0 1 2", "1"), ("beside y y y", "ok"), ("worth y 0 1 2 3 4 5", "2"))

    def test_eager_boxes(self):
        self.said((RING, "ok"), ("eager e ring", "ok"), ("ask e 3 1 0 2", "no yes yes no"), ("yes e", "0 1"),
                  ("no e", "2 3"), ("unasked e", ""), ("history e", "3 no\n1 yes\n0 yes\n2 no\n"), ("copy f e", "ok"),
                  ("back f", "2"), ("back f", "0"), ("ask f 2 0", "yes no"), ("ask e 0 2", "yes no"), ("yes f", "1 2"))

    def test_what_is_left(self):
        self.said((RING, "ok"), ("box b ring", "ok"), ("ask b 1", "no"), ("left l b", "ok"), ("worth l 0", "1"),
                  ("worth l 0 1 2", "2"), ("box c l", "ok"), ("ask c 0 1 2", "yes yes no"),
                  ("ask b 0 2 3", "yes yes no"),
                  ("left l b", "ok"), ("worth l", "0"), ("eager e ring", "ok"), ("ask e 1 0", "yes yes"),
                  ("left e e", "ok"), ("worth e 0 1", "0"), ("unasked e", "2 3"), ("eager d e", "ok"),
                  ("ask d 0", "no"))

    def test_names_that_are_words_of_rows(self):
        desk = self.said(("yard yard\nrows\n5\n3\n", "ok"), ("mirror away yard", "ok"), ("mirror granted away", "ok"),
                         ("part away granted away 0 granted 1", "ok"), ("worth away", "0"),
                         ("part part granted away granted", "ok"), ("worth part 0 1", "2"), ("box open yard", "ok"),
                         ("open open", "open"), ("ask open 0 1", "yes yes"), ("copy copy open", "ok"),
                         ("yes copy", "0 1"), ("open open", "settled"), ("box yes yard", "ok"), ("yes yes", ""))
        self.assertEqual(desk.log(), [])

    def test_names_of_one_and_of_eight_letters(self):
        self.said(("yard a\nrows\n5\n", "ok"), ("yard abcdefgh\nrows\n", "ok"), ("show a", "rows\n5\n"),
                  ("show abcdefgh", "rows\n"), ("box zzzzzzzz a", "ok"), ("ask zzzzzzzz 0", "yes"))

    def test_of_24_things(self):
        for yard in full_yards()[::3]:
            box = Box(yard)
            box.play(yard.things())
            every = " ".join(map(str, yard.things()))
            self.said((f"yard y\n{yard_text(yard)}", "ok"), ("box b y", "ok"), ("open b", "open" if yard.whole() else
                                                                                 "settled"),
                      (f"ask b {every}", " ".join("yes" if truth else "no" for thing, truth in box.answers())),
                      ("history b", history(box)), ("unasked b", ""), ("open b", "settled"))


class Kept(Raised, unittest.TestCase):
    def test_a_yard_and_a_box_by_one_name(self):
        desk = Desk()
        for row in ("yard a\nrows\n5\n5\n", "box a a", "ask a 0", "mirror a a", "box b a"):
            desk.say(row)
        self.assertEqual(desk.say("history a"), "0 no\n")
        self.assertEqual(desk.say("ask a 1"), "yes")
        self.assertEqual(desk.say("worth a 0 1"), "1")
        self.assertEqual(desk.say("ask b 0 1"), "no yes")

    def test_a_name_that_is_kept_anew(self):
        desk = Desk()
        for row in ("yard a\nrows\n5\n5\n", "box b a", "ask b 0", "yard a\nrows\n0\n"):
            desk.say(row)
        # The box has the yard that it was made of.
        self.assertEqual((desk.say("show a"), desk.say("unasked b")), ("rows\n0\n", "1"))
        self.assertEqual(desk.say("box b a"), "ok")
        self.assertEqual((desk.say("history b"), desk.say("unasked b")), ("", "0"))

    def test_a_box_takes_the_place_of_an_eager_one_and_back(self):
        desk = kept_desk()
        desk.say("eager box ring")
        self.raised("NoSuch", desk.say, "open box", who="box")
        self.assertEqual(desk.say("ask box 0"), "yes")
        desk.say("box box ring")
        self.assertEqual((desk.say("open box"), desk.say("ask box 0")), ("open", "no"))
        desk.say("copy box eager")
        self.raised("NoSuch", desk.say, "paper box 1", who="box")
        self.assertEqual(desk.say("history box"), desk.say("history eager"))

    def test_a_copy_goes_its_own_way(self):
        desk = kept_desk()
        desk.say("copy b box")
        self.assertEqual(desk.say("ask b 3 2"), "no yes")
        self.assertEqual((desk.say("history box"), desk.say("back b")), ("1 no\n0 yes\n", "2"))
        self.assertEqual(desk.say("copy b b"), "ok")
        self.assertEqual((desk.say("back box"), desk.say("history b")), ("0", "1 no\n0 yes\n3 no\n"))

    def test_two_boxes_of_one_yard_know_nothing_of_one_another(self):
        desk = Desk()
        for row in ("yard a\nrows\n5\n5\n", "box b a", "box c a"):
            desk.say(row)
        self.assertEqual((desk.say("ask b 0 1"), desk.say("ask c 1 0")), ("no yes", "no yes"))

    def test_two_desks_know_nothing_of_one_another(self):
        one, other = kept_desk(), Desk()
        self.raised("NoSuch", other.say, "show ring", who="ring")
        other.say("yard ring\nrows\n")
        self.assertEqual((one.say("show ring"), other.say("show ring")), ("ties 3\n0 1\n1 2\n2 0\n1 1\n", "rows\n"))
        one.play([])
        self.assertEqual(other.log(), [])

    def test_the_same_is_told_again(self):
        desk = kept_desk()
        for row in ("show ring", "worth ring 0 2", "yes box", "no box", "unasked box", "paper box 1", "open box",
                    "history box", "ask box 1 0", "history eager"):
            self.assertEqual(desk.say(row), desk.say(row))


class Refused(Raised, unittest.TestCase):
    def refused(self, name, said, **fields):
        """Is what is said refused so, with nothing changed, and is no row more answered?"""
        desk = kept_desk()
        before = state(desk)
        self.raised(name, desk.say, said, **fields)
        self.assertEqual(state(desk), before, said)
        desk.play([])
        self.assertEqual(desk.log(), [("begin", 10), ("end", 10)])

    def test_each_row_is_one(self):
        for row in EACH:
            self.assertIs(type(kept_desk().say(row)), str, row)
        desk = kept_desk()
        self.assertEqual(len(desk.play(list(EACH))), len(EACH))

    def test_no_texts(self):
        for wrong in no_texts() + [b"show ring", ["show ring"], ("show", "ring"), [["show", "ring"]], Desk(), Desk]:
            self.refused("NoRow", wrong)

    def test_blanks_and_line_feeds_too_many_or_too_few(self):
        for row in EACH:
            for wrong in (" " + row, "\n" + row, row.replace(" ", "  ", 1), row.replace(" ", "\n", 1),
                          row.replace(" ", "", 1), row.replace(" ", "\t", 1)):
                self.refused("NoRow", wrong)
            if "\n" not in row or row.startswith("history"):
                for wrong in (row + " ", row + "\n", row + " \n", row + "\nrows\n", row.replace(" ", "  ")):
                    self.refused("NoRow", wrong)

    def test_words_too_many_too_few_or_other_than_told(self):
        for row in EACH[1:]:
            words = row.split(" ")
            for at in range(len(words)):
                self.refused("NoRow", " ".join(words[:at] + [words[at].upper()] + words[at + 1:])
                             if not words[at].isdigit() else " ".join(words[:at] + ["x"] + words[at + 1:]))
            self.refused("NoRow", row + " ring")
            self.refused("NoRow", row + " -1")
            self.refused("NoRow", words[0])
            self.refused("NoRow", row.replace(words[0], words[0] + "s", 1))
            if words[0] not in ("worth", "ask", "part"):
                self.refused("NoRow", row + " 1")
                self.refused("NoRow", " ".join(words[:-1]))
        for row in ("", " ", "\n", "ring", "show", "yard", "worth", "0", "ok", "play", "log", "ties 3", "rows", "say x",
                    "ask box", "paper box", "paper box 1 0", "back box 0", "left new", "copy box", "mirror new",
                    "beside new ring", "box new", "eager new", "box", "eager", "unasked", "history", "open"):
            self.refused("NoRow", row)

    def test_words_of_a_part(self):
        for row in ("part new ring", "part new ring away", "part new ring granted", "part new ring away 0",
                    "part new ring granted 0", "part new ring granted 0 away 1", "part new ring 0 granted 1",
                    "part new ring away 0 granted 1 x", "part new ring away x granted 1", "part new away 0 granted 1",
                    "part new ring away 0 granted 1 away 2", "part new ring away away granted",
                    "part new ring away 0 granted granted 1", "part ring away 0 granted 1",
                    "part new ring Away 0 granted 1", "part new ring away 0, granted 1"):
            self.refused("NoRow", row)

    def test_numbers_that_are_written_otherwise(self):
        for number in ("00", "01", "-0", "-1", "+1", "1.", "0x1", "1_0", "-", "one", "True", "None", "[1]", "1,2"):
            for row in (f"worth ring {number}", f"worth ring 0 {number}", f"ask box {number}", f"ask box 2 {number}",
                        f"paper box {number}", f"part new ring away {number} granted",
                        f"part new ring away granted {number}"):
                self.refused("NoRow", row)

    def test_names_that_are_none(self):
        for name in [name for name in no_names() if isinstance(name, str)] + ["0", "ring1", "-"]:
            for row in (f"yard {name}\nrows\n", f"mirror {name} ring", f"mirror new {name}", f"beside {name} ring ring",
                        f"beside new {name} ring", f"beside new ring {name}", f"show {name}", f"worth {name} 0",
                        f"part {name} ring away granted", f"part new {name} away granted", f"box {name} ring",
                        f"box new {name}", f"eager {name} ring", f"eager new {name}", f"copy {name} box",
                        f"copy new {name}", f"left {name} box", f"left new {name}", f"ask {name} 0", f"back {name}",
                        f"yes {name}", f"no {name}", f"unasked {name}", f"paper {name} 1", f"open {name}",
                        f"history {name}"):
                # Behind this name a yard's row has its line feed, and then a text.
                if row != "yard ann\n\nrows\n":
                    self.refused("NoRow", row)

    def test_yard_rows(self):
        for row in ("yard new", "yard new ", "yard", "yard\n", "yard \nrows\n", "yard new x\nrows\n",
                    "yard new \nrows\n",
                    "yard new rows\n", "yardnew\nrows\n", "yard  new\nrows\n", "yard new 0\nrows\n"):
            self.refused("NoRow", row)

    def test_no_yards_texts(self):
        for text, row in (("", 0), ("\n", 1), ("rows", 1), ("rows\n5", 2), ("rows\n4096\n", 2), ("ties 0\n", 1),
                          ("rows\n5\n\n", 3), ("\nrows\n", 1), ("mirror ring\n", 1), ("rows\n" + "1\n" * 25, 26)):
            self.refused("NoText", f"yard new\n{text}", row=row)
            self.refused("NoText", f"yard ring\n{text}", row=row)

    def test_names_by_which_nothing_is_kept(self):
        for row, who in (("mirror new x", "x"), ("mirror ring x", "x"), ("part new x away granted", "x"),
                         ("beside new x ring", "x"), ("beside new ring x", "x"), ("beside new x y", "x"),
                         ("beside x y x", "y"), ("show x", "x"), ("worth x", "x"), ("box new x", "x"),
                         ("eager new x", "x"),
                         ("copy new x", "x"), ("left new x", "x"), ("ask x 0", "x"), ("back x", "x"), ("yes x", "x"),
                         ("no x", "x"), ("unasked x", "x"), ("paper x 0", "x"), ("open x", "x"), ("history x", "x"),
                         ("show new", "new"), ("mirror new new", "new")):
            self.refused("NoSuch", row, who=who)

    def test_a_box_is_no_yard_and_a_yard_no_box(self):
        for row, who in (("show box", "box"), ("worth box 0", "box"), ("mirror new box", "box"),
                         ("box new eager", "eager"),
                         ("beside new ring box", "box"), ("beside new eager box", "eager"), ("eager new box", "box"),
                         ("part new box away granted", "box"), ("ask ring 0", "ring"), ("copy new ring", "ring"),
                         ("left new ring", "ring"), ("back ring", "ring"), ("yes ring", "ring"), ("no ring", "ring"),
                         ("unasked ring", "ring"), ("paper ring 0", "ring"), ("open ring", "ring"),
                         ("history ring", "ring"), ("paper eager 1", "eager"), ("open eager", "eager")):
            self.refused("NoSuch", row, who=who)

    def test_as_the_stages_refuse(self):
        self.refused("NoYard", "mirror new deep", what="deep", who=None)
        self.refused("NoYard", "mirror deep deep", what="deep", who=None)
        self.refused("NoYard", "part new deep away granted", what="deep", who=None)
        self.refused("NoYard", "beside new deep ring", what="deep", who=None)
        self.refused("NoYard", "beside new ring deep", what="deep", who=None)
        self.refused("NoYard", "show deep", what="sort", who=None)
        self.refused("NoYard", "part new ring away 4 granted 4", what="away", who=None)
        self.refused("NoYard", "part new ring away 1 1 granted", what="away", who=None)
        self.refused("NoYard", "part new ring away 1 granted 0 0", what="granted", who=None)
        self.refused("NoYard", "part new ring away granted 24", what="granted", who=None)
        self.refused("NoYard", "part new ring away 1 2 granted 0 2", what="both", who=None)
        self.refused("NoHeap", "worth ring 4")
        self.refused("NoHeap", "worth ring 0 1 0")
        self.refused("NoHeap", f"worth ring {10 ** 29}")
        for number in (4, 24, 10 ** 29):
            for row in (f"ask box {number}", f"ask box 2 3 {number}", f"ask box {number} 2", f"paper box {number}",
                        f"ask eager 2 {number}", f"ask box 2 {number} {number + 1}"):
                self.refused("NoThing", row, who=number)
        self.refused("NotAsked", "paper box 2", who=2)

    def test_too_many_side_by_side(self):
        desk = Desk()
        desk.say("yard full\nrows\n" + "1\n" * 24)
        desk.say("yard one\nrows\n1\n")
        for row in ("beside new full one", "beside full one full", "beside new full full"):
            self.raised("NoYard", desk.say, row, what="many", who=None)
        self.raised("NoSuch", desk.say, "show new", who="new")

    def test_what_is_left_too_deep(self):
        desk = kept_desk()
        desk.say("box b deep")
        self.raised("NoYard", desk.say, "left new b", what="deep", who=None)
        desk.say("eager b deep")
        self.raised("NoYard", desk.say, "left deep b", what="deep", who=None)

    def test_nothing_to_take_back(self):
        for kind in ("box", "eager"):
            desk = kept_desk()
            desk.say(f"{kind} new ring")
            self.raised("NotAsked", desk.say, "back new", who=None)
            self.assertEqual([desk.say(f"back {kind}") for ask in range(2)], ["0", "1"])
            self.raised("NotAsked", desk.say, f"back {kind}", who=None)

    def test_which_is_told_first(self):
        self.refused("NoRow", "beside NEW x y")
        self.refused("NoRow", "ask x 0 01")
        self.refused("NoRow", "part new x away 9 9 granted x")
        self.refused("NoRow", "yard NEW\nspoilt")
        self.refused("NoSuch", "part new x away 9 9 granted 9", who="x")
        self.refused("NoSuch", "worth x 9 9", who="x")
        self.refused("NoSuch", "ask x 99", who="x")
        self.refused("NoSuch", "paper x 99", who="x")
        self.refused("NoSuch", "paper eager 99", who="eager")
        self.refused("NoThing", "paper box 99", who=99)


class Played(Raised, unittest.TestCase):
    def test_it_tells_what_saying_tells_one_by_one(self):
        one, other = Desk(), Desk()
        rows = [RING, "box b ring", "ask b 1 0", "history b", "copy c b", "back c", "unasked c", "mirror m ring",
                "worth m 0 1 2 3"]
        answers = [one.say(row) for row in rows]
        self.assertEqual(other.play(rows), answers)
        self.assertEqual(state(one)[0], state(other)[0])
        self.assertEqual((one.log(), other.log()), ([], [("begin", 0), ("end", 9)]))

    def test_of_nothing(self):
        desk = Desk()
        self.assertEqual((desk.play([]), desk.play([]), desk.log()), ([], [], [("begin", 0), ("end", 0)] * 2))

    def test_the_first_that_is_refused_ends_it(self):
        for wrong, name, fields in (("show x", "NoSuch", {"who": "x"}), (None, "NoRow", {}), ("show", "NoRow", {}),
                                    ("yard a\nrows\n5", "NoText", {"row": 2}), ("ask b 1 9", "NoThing", {"who": 9}),
                                    ("worth ring 0 0", "NoHeap", {}), ("paper b 3", "NotAsked", {"who": 3}),
                                    ("part a ring away 0 granted 0", "NoYard", {"what": "both", "who": None})):
            desk, again = Desk(), Desk()
            rows = [RING, "box b ring", "ask b 2", wrong, "ask b 0", "nothing"]
            with self.assertRaises(getattr(errors, name)) as caught:
                desk.play(rows)
            self.assertEqual(vars(caught.exception), fields)
            # What was done ahead of it stays.
            again.play(rows[:3])
            self.assertEqual(state(desk), (state(again)[0], [("begin", 0), ("end", 3)]))
            self.assertEqual(desk.say("history b"), "2 no\n")
            self.assertEqual(desk.play(["yes b", "no b"]), ["", "2"])
            self.assertEqual(desk.log(), [("begin", 0), ("end", 3), ("begin", 4), ("end", 6)])

    def test_each_refusal_is_of_its_classes(self):
        desk = kept_desk()
        self.raised("NoRow", desk.play, ["show ring", "x"])
        self.raised("NoText", desk.play, ["show ring", "yard a\nx\n"], row=1)
        self.raised("NoThing", desk.play, ["ask box 7"], who=7)
        self.raised("NoYard", desk.play, ["show deep"], what="sort", who=None)
        self.assertEqual([many for word, many in desk.log()], [10, 11, 11, 12, 12, 12, 12, 12])
        self.assertEqual([word for word, many in desk.log()], ["begin", "end"] * 4)

    def test_how_many_rows_it_had_answered(self):
        desk = kept_desk()
        desk.play(["show ring", "open box"])
        desk.say("yes box")
        for wrong in ("show x", "what", None, "ask box 9"):
            with self.assertRaises((ValueError, LookupError)):
                desk.say(wrong)
        with self.assertRaises(errors.NoRow):
            desk.play(["yes box", "no box", "what", "yes box"])
        desk.play(["ask box 2 3"])
        self.assertEqual(desk.log(), [("begin", 10), ("end", 12), ("begin", 13), ("end", 15), ("begin", 15),
                                      ("end", 16)])
        self.assertEqual({(type(entry), type(entry[0]), type(entry[1])) for entry in desk.log()}, {(tuple, str, int)})

    def test_it_stands_in_the_log_however_it_ends(self):
        class Stop(BaseException):
            pass

        def rows():
            yield "show ring"
            raise Stop

        desk = kept_desk()
        with self.assertRaises(Stop):
            desk.play(rows())
        self.assertEqual(desk.log(), [("begin", 10), ("end", 11)])

    def test_told_lists_are_the_askers_own_and_what_is_handed_in_stays(self):
        desk, rows = kept_desk(), ["show ring", "ask box 2"]
        answers = desk.play(rows)
        self.assertEqual(rows, ["show ring", "ask box 2"])
        rows.clear()
        answers.clear()
        desk.log().append(("begin", 0))
        desk.log().clear()
        self.assertEqual((desk.log(), desk.say("yes box")), ([("begin", 10), ("end", 12)], "0 2"))
        self.assertIsNot(desk.log(), desk.log())
        rows = ["show ring", "x"]
        with self.assertRaises(errors.NoRow):
            desk.play(rows)
        self.assertEqual(rows, ["show ring", "x"])

    def test_by_names_and_methods(self):
        desk = Desk()
        self.assertEqual((desk.say(row="yard a\nrows\n"), desk.play(rows=["show a"])), ("ok", ["rows\n"]))
        for name in ("__init__", "say", "play", "log"):
            self.assertIn(name, vars(Desk))


def numbered(things):
    return "".join(f" {thing}" for thing in things)


class AtRandom(unittest.TestCase):
    """Rows at random, against what the stages tell of the yards and boxes that they mean."""

    def setUp(self):
        self.dice = random.Random(121)

    def some_yard_row(self, yards):
        """A row that keeps a yard, or is refused, and the yard or the refusal that it should come to."""
        dice, name = self.dice, self.dice.choice("abc")
        turn = dice.randrange(4)
        if turn == 0 or not yards:
            yard = dice.choice(one_of_each() + [Rows([5, 3]), Ties(2, [(0, 1)])])
            return name, f"yard {name}\n{yard_text(yard)}", lambda: yard
        first, second = dice.choice(sorted(yards)), dice.choice(sorted(yards))
        one, other = yards[first], yards[second]
        if turn == 1:
            return name, f"mirror {name} {first}", lambda: Mirror(one)
        if turn == 2:
            return name, f"beside {name} {first} {second}", lambda: Beside(one, other)
        away = dice.sample(one.things(), dice.randrange(min(3, len(one) + 1)))
        granted = dice.sample(one.things(), dice.randrange(min(3, len(one) + 1)))
        row = f"part {name} {first} away{numbered(away)} granted{numbered(granted)}"
        return name, row, lambda: Part(one, away=away, granted=granted)

    def some_telling(self, name, box):
        """A row that asks a box something, and what it should tell."""
        dice = self.dice
        heap = [dice.randrange(len(box.yard()) + 1) for ask in range(dice.randrange(1, 4))]
        tellings = [(f"yes {name}", lambda: " ".join(map(str, box.yes()))),
                    (f"no {name}", lambda: " ".join(map(str, box.no()))),
                    (f"unasked {name}", lambda: " ".join(map(str, box.unasked()))),
                    (f"history {name}", lambda: history(box)), (f"back {name}", lambda: str(box.back())),
                    (f"ask {name}{numbered(heap)}",
                     lambda: " ".join("yes" if truth else "no" for truth in box.play(heap)))]
        if isinstance(box, Box):
            tellings += [(f"open {name}", lambda: "open" if is_open(box) else "settled"),
                         (f"paper {name} {heap[0]}", lambda: paper(box, heap[0])[0] + numbered(paper(box, heap[0])[1]))]
        return dice.choice(tellings)

    def both(self, desk, row, tell):
        """Does the desk tell this, or refuse as that does?"""
        try:
            told = tell()
        except (ValueError, LookupError, RuntimeError) as refusal:
            with self.assertRaises(type(refusal)) as caught:
                desk.say(row)
            self.assertEqual(vars(caught.exception), vars(refusal), row)
            return None
        self.assertEqual(desk.say(row), told if isinstance(told, str) else "ok", row)
        return told

    def keep(self, shelf, name, made):
        if made is not None:
            shelf[name] = made

    def step(self, desk, yards, boxes):
        dice, turn = self.dice, self.dice.randrange(10)
        if turn < 2 or not yards:
            name, row, make = self.some_yard_row(yards)
            self.keep(yards, name, self.both(desk, row, make))
        elif turn == 2 or not boxes:
            name, of, kind = dice.choice("abc"), dice.choice(sorted(yards)), dice.choice((Box, Eager))
            self.keep(boxes, name, self.both(desk, f"{kind.__name__.lower()} {name} {of}", lambda: kind(yards[of])))
        elif turn == 3:
            name, of = dice.choice("abc"), dice.choice(sorted(boxes))
            self.keep(boxes, name, self.both(desk, f"copy {name} {of}", lambda: boxes[of].copied()))
        elif turn == 4:
            name, of = dice.choice("abc"), dice.choice(sorted(boxes))
            self.keep(yards, name, self.both(desk, f"left {name} {of}", lambda: rest_of(boxes[of])))
        elif turn == 5:
            of = dice.choice(sorted(yards))
            heap = dice.choice(heaps_of(min(len(yards[of]) + 1, 4)))
            self.both(desk, f"worth {of}{numbered(heap)}", lambda: str(yards[of].worth(heap)))
            self.both(desk, f"show {of}", lambda: yard_text(yards[of]))
        else:
            name = dice.choice(sorted(boxes))
            self.both(desk, *self.some_telling(name, boxes[name]))

    def test_many_days(self):
        for day in range(60):
            desk, yards, boxes = Desk(), {}, {}
            for step in range(60):
                self.step(desk, yards, boxes)


class Layered(unittest.TestCase):
    def test_a_box_of_a_layered_yard_of_24_things(self):
        ties, rows = Ties(5, [(at % 5, at * 2 % 5) for at in range(13)]), Rows(list(range(12)))
        yard = Beside(Mirror(Part(ties, away=[3])), rows)
        desk, every = Desk(), numbered(range(24))
        self.assertEqual(desk.play([f"yard t\n{yard_text(ties)}", f"yard r\n{yard_text(rows)}",
                                    "part p t away 3 granted", "mirror m p", "beside y m r"]), ["ok"] * 5)
        for kind, word in ((Box, "box"), (Eager, "eager")):
            box = kind(yard)
            answers = " ".join("yes" if truth else "no" for truth in box.play(list(range(24))))
            self.assertEqual(desk.play([f"{word} b y", f"ask b{every}", "history b", "unasked b", f"worth y{every}"]),
                             ["ok", answers, history(box), "", str(yard.whole())])


if __name__ == "__main__":
    unittest.main()
