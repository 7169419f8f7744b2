"""The errors: what they stand under, their fields, and how they are made."""

import unittest

from anything import Odd
from noaslong import errors

UNDER = {
    "YardError": ValueError,
    "NoYard": errors.YardError,
    "NoHeap": errors.YardError,
    "NoOrder": errors.YardError,
    "NotLeast": errors.YardError,
    "NoTold": errors.YardError,
    "NoText": errors.YardError,
    "NoRow": errors.YardError,
    "NoThing": LookupError,
    "NoSuch": KeyError,
    "NotAsked": RuntimeError,
    "TooMany": ArithmeticError,
}
FIELDS = {
    "NoYard": ("what", "who"),
    "NoText": ("row",),
    "NoThing": ("who",),
    "NoSuch": ("who",),
    "NotAsked": ("who",),
    "TooMany": ("limit",),
}
MADE_OF_TEXT = ("NoHeap", "NoOrder", "NotLeast", "NoTold", "NoRow")


def named(name):
    return getattr(errors, name)


class Family(unittest.TestCase):
    def test_each_stands_straight_under_one(self):
        for name in UNDER:
            self.assertEqual(named(name).__bases__, (UNDER[name],), name)

    def test_none_stands_under_another_but_so(self):
        for name in UNDER:
            for other in UNDER:
                expected = name == other or UNDER[name] == named(other)
                self.assertEqual(issubclass(named(name), named(other)), expected, (name, other))

    def test_python_errors_they_are_and_are_not(self):
        kinds = (ValueError, LookupError, KeyError, IndexError, RuntimeError, ArithmeticError, TypeError,
                 ZeroDivisionError, OverflowError, NotImplementedError)
        expected = {"NoThing": {LookupError}, "NoSuch": {LookupError, KeyError}, "NotAsked": {RuntimeError},
                    "TooMany": {ArithmeticError}}
        for name in UNDER:
            found = {kind for kind in kinds if issubclass(named(name), kind)}
            self.assertEqual(found, expected.get(name, {ValueError}), name)

    def test_no_other_class_stands_there(self):
        found = {name for name, value in vars(errors).items() if isinstance(value, type)}
        self.assertEqual(found, set(UNDER))


class Fields(unittest.TestCase):
    def test_by_place_and_by_name(self):
        for name, fields in FIELDS.items():
            values = [f"value of {field}" for field in fields]
            by_name = dict(zip(fields, values))
            for made in (named(name)(*values), named(name)(**by_name)):
                self.assertEqual(vars(made), by_name, name)

    def test_fields_are_kept_as_they_are(self):
        for name, fields in FIELDS.items():
            for value in (None, 0, -1, "x", [1], ("a", None), {}, Odd()):
                made = named(name)(*[value] * len(fields))
                for field in fields:
                    self.assertIs(getattr(made, field), value)

    def test_fields_are_all_needed_and_no_others_taken(self):
        for name, fields in FIELDS.items():
            for wrong in (len(fields) - 1, len(fields) + 1):
                with self.assertRaises(TypeError):
                    named(name)(*[0] * wrong)
            with self.assertRaises(TypeError):
                named(name)(**{field + "x": 0 for field in fields})

    def test_the_others_are_made_of_a_text(self):
        for name in MADE_OF_TEXT:
            self.assertEqual(str(named(name)("some text")), "some text")
            self.assertEqual(vars(named(name)("some text")), {})

    def test_what_is_raised_is_caught_with_its_fields(self):
        for name, fields in FIELDS.items():
            with self.assertRaises(UNDER[name]) as caught:
                raise named(name)(*range(5, 5 + len(fields)))
            self.assertEqual([getattr(caught.exception, field) for field in fields], list(range(5, 5 + len(fields))))

    def test_two_errors_know_nothing_of_one_another(self):
        first, second = errors.NoYard("things", None), errors.NoYard("thing", 3)
        self.assertEqual((first.what, first.who, second.what, second.who), ("things", None, "thing", 3))


if __name__ == "__main__":
    unittest.main()
