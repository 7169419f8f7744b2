"""What the program refuses with.

The errors that have fields make no message of their own, and leave it to Python, which shows what they were
made of by place: what is refused may be anything, also what cannot be turned into a text.
"""


class YardError(ValueError):
    """Something is not of the form that yards, heaps, boxes or texts have."""


class NoYard(YardError):
    """This makes no yard: what says which argument is wrong, who is the number of the wrong thing, or None."""

    def __init__(self, what, who):
        self.what = what
        self.who = who


class NoHeap(YardError):
    """This is no heap of the yard."""


class NoOrder(YardError):
    """This is no order of the yard."""


class NotLeast(YardError):
    """This is no least heap of the yard."""


class NoTold(YardError):
    """This is no list of answers."""


class NoText(YardError):
    """This text cannot be read: row is the number of the first wrong row, from 1, or 0."""

    def __init__(self, row):
        self.row = row


class NoRow(YardError):
    """This is no row that a desk understands."""


class NoThing(LookupError):
    """The yard has no such thing: who is what was handed in."""

    def __init__(self, who):
        self.who = who


class NoSuch(KeyError):
    """Nothing is kept by this name: who is what was handed in."""

    def __init__(self, who):
        self.who = who


class NotAsked(RuntimeError):
    """This was not asked: who is the thing, or None where nothing was."""

    def __init__(self, who):
        self.who = who


class TooMany(ArithmeticError):
    """There are more than limit."""

    def __init__(self, limit):
        self.limit = limit
