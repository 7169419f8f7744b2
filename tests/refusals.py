"""How a test sees what a yard is refused with."""

from noaslong import errors


class Refusals:
    """For test cases: is a yard refused, with which fields, and is nothing that was handed in changed?"""

    def refused(self, sort, arguments, what, who):
        kept = [list(argument) for argument in arguments if isinstance(argument, list)]
        with self.assertRaises(errors.NoYard) as caught:
            sort(*arguments)
        for argument, before in zip([argument for argument in arguments if isinstance(argument, list)], kept):
            self.assertEqual([id(part) for part in argument], [id(part) for part in before])
        self.assertEqual((caught.exception.what, caught.exception.who), (what, who))
        self.assertNotIsInstance(caught.exception.who, bool)
        self.assertIsInstance(caught.exception, errors.YardError)
        self.assertIsInstance(caught.exception, ValueError)
        self.assertNotIsInstance(caught.exception, (errors.NoHeap, LookupError, ArithmeticError, RuntimeError))

    def refused_things(self, sort, ahead, right, wrong_things):
        """What is refused of the things' list, behind the right arguments ahead; right is some right thing."""
        for wrong in wrong_things:
            self.refused(sort, [*ahead, [wrong]], "thing", 0)
            self.refused(sort, [*ahead, [right, wrong]], "thing", 1)
            self.refused(sort, [*ahead, [right, wrong, right]], "thing", 1)
            self.refused(sort, [*ahead, [wrong, wrong]], "thing", 0)
            self.refused(sort, [*ahead, [right] * 23 + [wrong]], "thing", 23)
            self.refused(sort, [*ahead, [right] * 24 + [wrong]], "many", None)
            self.refused(sort, [*ahead, [wrong] + [right] * 24], "many", None)
        for many in (25, 26, 100):
            self.refused(sort, [*ahead, [right] * many], "many", None)
        self.assertEqual(sort(*ahead, [right] * 24).many(), 24)


UNDER = {
    "NoYard": (errors.YardError, ValueError),
    "NoHeap": (errors.YardError, ValueError),
    "NoOrder": (errors.YardError, ValueError),
    "NotLeast": (errors.YardError, ValueError),
    "NoTold": (errors.YardError, ValueError),
    "NoText": (errors.YardError, ValueError),
    "NoRow": (errors.YardError, ValueError),
    "NoThing": (LookupError,),
    "NoSuch": (KeyError, LookupError),
    "NotAsked": (RuntimeError,),
    "TooMany": (ArithmeticError,),
}
OTHERS = (ValueError, LookupError, KeyError, IndexError, RuntimeError, NotImplementedError, RecursionError,
          ArithmeticError, TypeError, AttributeError, errors.YardError, *[getattr(errors, name) for name in UNDER])


class Raised:
    """For test cases: what is refused, of which classes the refusal is and is not, and its fields by their names."""

    def raised(self, name, call, *arguments, **fields):
        with self.assertRaises(getattr(errors, name)) as caught:
            call(*arguments)
        refusal = caught.exception
        mine = (getattr(errors, name), *UNDER[name])
        for kind in OTHERS:
            self.assertEqual(isinstance(refusal, kind), kind in mine, (name, kind))
        self.assertEqual(sorted(vars(refusal)), sorted(fields))
        for field, value in fields.items():
            found = getattr(refusal, field)
            # Equal numbers and texts need not be one object; anything else is told as it was handed in.
            alike = type(found) is type(value) and type(value) in (int, str) and found == value
            self.assertTrue(found is value or alike, field)
