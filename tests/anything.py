"""Values of many kinds, for what the document promises of anything. No numbers with a point."""


class Odd:
    """Is equal to everything, and cannot be shown or measured."""

    def __eq__(self, other):
        return True

    def __hash__(self):
        return 0

    def __repr__(self):
        raise RuntimeError("not to be shown")

    def __len__(self):
        raise RuntimeError("not to be measured")

    def __bool__(self):
        raise RuntimeError("not to be judged")


class Equal:
    """Says that it is equal to everything."""

    def __eq__(self, other):
        return True


def no_wholes():
    """Values that are no whole numbers."""
    return [None, True, False, "", "1", "ab", b"", b"1", [], [1], (), (1,), (0, 1), {}, {0: 1}, set(), {1},
            frozenset([0]), range(2), iter([0]), object(), Odd(), Equal(), int, len, NotImplemented, ...]


def no_lists():
    """Values that are no lists."""
    return [None, True, False, 0, 1, -1, 24, "", "0", "ab", b"", b"01", (), (0,), (0, 1), ((0, 1),), {}, {0: 1},
            set(), {0}, frozenset([0]), range(0), range(2), iter([0]), object(), Odd(), Equal(), list, len]


def no_things(many):
    """Values that are no numbers of things of a yard of so many things."""
    return no_wholes() + [-1, -many, many, many + 1, 24, 25, 100, 10 ** 29, -(10 ** 29)]


def no_texts():
    """Values that are no texts."""
    return [value for value in no_wholes() if type(value) is not str] + [0, 1, -1, bytearray(b"a"), ["ok"], ("ok",)]


def no_names():
    """Values that are no NAMEs."""
    return no_texts() + ["", "abcdefghi", "Ann", "aNn", "ANN", "an n", " ann", "ann ", "ann\n", "a1", "1", "a-b", "a_b",
                         "ann.", "a" * 100, ["ann"], ("ann",), {"ann": 1}, b"ann"]


def no_heaps(many):
    """Values that are no heaps of a yard of so many things, up to 24."""
    wrong = no_lists() + [[thing] for thing in no_things(many)] + [[[]], [[0]], [[0], [1]]]
    if many > 0:
        wrong += [[0, thing] for thing in no_things(many)] + [[thing, many - 1] for thing in no_things(many)]
        wrong += [[0, 0], [many - 1, many - 1], [many - 1, 0, many - 1], list(range(many)) + [0], list(range(many + 1))]
    endless = [0]
    endless.append(endless)
    return wrong + [endless]


def no_orders(many):
    """Values that are no orders of so many things."""
    every = list(range(many))
    wrong = no_heaps(many) + [tuple(every), set(every), {thing: thing for thing in every}, every + [many], every + [0]]
    for at in every:
        wrong.append(every[:at] + every[at + 1:])
        wrong += [every[:at] + [odd] + every[at + 1:] for odd in (True, False, None, str(at), [at], many, -1, "")]
        wrong += [every[:at] + [other] + every[at + 1:] for other in every if other != at]
    return wrong
