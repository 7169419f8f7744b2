"""What the document says of a yard's heaps, word for word, over all of its heaps; and yards to say it of."""

import functools
import itertools
import random

from noaslong.beside import Beside
from noaslong.boxes import Box
from noaslong.heaps import rising_heap
from noaslong.lots import Lots
from noaslong.mirrors import Mirror
from noaslong.parts import Part
from noaslong.rows import Rows
from noaslong.seats import Seats
from noaslong.ties import Ties
from noaslong.yards import Yard
from second import heaps_of, second_worth, small_lots, small_rows, small_seats, small_ties, some_layers

PAIRS_OF_PAIRS = ((0, 1, 2, 3), (0, 1, 4, 5), (0, 1, 6, 7), (2, 3, 4, 5), (2, 3, 6, 7))


class Pairs(Yard):
    """Eight things in four pairs, of a sort of its own: no yard of ties, rows, lots or seats has these worths."""

    def many(self):
        return 8

    def worth(self, heap):
        own = tuple(rising_heap(heap, 8))
        return 3 if own in PAIRS_OF_PAIRS else min(len(own), 4)

    def __repr__(self):
        return "Pairs()"


class Words:
    """A yard's worths, reckoned the second way, and what comes of them by the document's words alone."""

    def __init__(self, yard):
        self.yard = yard
        self.things = frozenset(range(yard.many()))
        self.heaps = [frozenset(heap) for heap in heaps_of(yard.many())]
        self.worths = {heap: second_worth(yard, sorted(heap)) for heap in self.heaps}
        self.rings = []
        for heap in self.heaps:
            # Those of fewer things come first, so all that may bar this one are known.
            if heap and all(self.carries(heap - {thing}, thing) for thing in heap):
                if not any(ring < heap for ring in self.rings):
                    self.rings.append(heap)

    def worth(self, heap):
        return self.worths[frozenset(heap)]

    def carries(self, heap, thing):
        return self.worth({*heap, thing}) == self.worth(heap)

    def fulfils(self, heap):
        return self.worth(heap) == self.worth(self.things)

    def is_idle(self, thing):
        return self.carries([], thing)

    def is_free(self, heap):
        return not any(self.carries({*heap} - {thing}, thing) for thing in heap)

    def carried(self, heap):
        return [thing for thing in sorted(self.things) if self.carries(heap, thing)]

    def is_ring(self, heap):
        return frozenset(heap) in self.rings

    def is_fence(self, heap):
        return not self.fulfils(self.things - {*heap})

    def is_least_fence(self, heap):
        return self.is_fence(heap) and all(self.fulfils(self.things - {*heap} | {thing}) for thing in heap)

    def is_least(self, heap):
        return self.fulfils(heap) and not any(self.fulfils({*heap} - {thing}) for thing in heap)

    def all_least(self):
        return [sorted(heap) for heap in self.heaps if self.is_least(heap)]

    def answers(self, order):
        """What a box says, asked in this order."""
        yes, unasked, said = set(), set(self.things), []
        for thing in order:
            unasked.discard(thing)
            said.append((thing, not self.fulfils(yes | unasked)))
            if said[-1][1]:
                yes.add(thing)
        return said

    def eager_answers(self, order):
        """What an eager box says, asked in this order."""
        yes, said = set(), []
        for thing in order:
            said.append((thing, not self.carries(yes, thing)))
            if said[-1][1]:
                yes.add(thing)
        return said

    def is_right(self, told, paper):
        """Whether the paper is right for the last answer of the told."""
        word, heap = paper
        thing, answer = told[-1]
        if thing not in heap:
            return False
        others = {*heap} - {thing}
        told_no = {other for other, said in told if not said}
        if word == "fence":
            return answer and self.is_fence(heap) and others <= told_no
        return not answer and not others & told_no and self.carries(others, thing)


@functools.cache
def some_words():
    """Words of small yards of all sorts, layered ones too: with and without things, with idle ones and alike ones."""
    yards = []
    for small in (small_ties(), small_rows(), small_lots(), small_seats()):
        # The last sixty of each are of three to six things.
        yards += small[:-60:11] + small[-60::4]
    yards += [Ties(1, []), Rows([]), Lots([], []), Seats(0, []), Ties(1, [(0, 0)] * 3), Rows([0, 0]),
              Lots([0], [0, 0]), Seats(2, [[], []]), Rows([5, 5, 5]), Lots([2], [0, 0, 0, 0]), Pairs()]
    yards += some_layers() + [Mirror(Pairs()), Part(Pairs(), away=[7], granted=[0]), Beside(Rows([5, 0]), Ties(1, []))]
    return [Words(yard) for yard in yards]


def some_orders(many, count, seed):
    """All orders of so many things where they are few, else some."""
    if many <= 3:
        return [list(order) for order in itertools.permutations(range(many))]
    dice = random.Random(seed)
    return [list(range(many)), list(range(many))[::-1]] + [dice.sample(range(many), many) for at in range(count)]


def asked(yard, order, kind=Box):
    """A box of the yard, of this kind, asked in this order."""
    box = kind(yard)
    box.play(order)
    return box


def one_of_each():
    """A yard of each sort, of four things, an idle one (the last) and two alike ones (the first) among them."""
    return [Ties(3, [(0, 1), (1, 0), (1, 2), (2, 2)]), Rows([5, 5, 3, 0]), Lots([1, 2, 0], [0, 0, 1, 2]),
            Seats(2, [[1], [1], [0, 1], []])]


def yards_of_four():
    """Yards of four things, of each sort, mirrors, a part and two side by side."""
    rows = Rows([5, 7, 5, 3, 0, 6])
    return one_of_each() + [Mirror(one_of_each()[0]), Mirror(Mirror(one_of_each()[3])),
                            Part(rows, away=[1], granted=[3]), Beside(Rows([5, 5]), Ties(2, [(0, 1), (1, 1)]))]
