"""What all yards have."""

from noaslong.errors import NoYard
from noaslong.heaps import MOST_THINGS, rising_heap

MOST_DEPTH = 4


class Yard:
    """The yard of some sort; each sort is a class of its own, and none is made of this one itself."""

    def depth(self):
        """How many yards that are made of yards stand within one another here, this one counted."""
        # Only those tell more than this that are made of other yards.
        return 0

    def many(self):
        """How many things there are."""
        raise NotImplementedError("each sort of yard tells this")

    def things(self):
        """The heap of all things."""
        return list(range(self.many()))

    def worth(self, heap):
        """What the heap is worth; NoHeap."""
        raise NotImplementedError("each sort of yard tells this")

    def whole(self):
        """What all things are worth."""
        return self.worth(self.things())

    def __eq__(self, other):
        # A yard's repr shows its sort and all that it is made of, in order.
        return isinstance(other, Yard) and repr(self) == repr(other)

    def __len__(self):
        return len(self.things())

    def __repr__(self):
        return "Yard()"


def check_yard(yard, what):
    """NoYard, where this, of anything, is no yard."""
    if not isinstance(yard, Yard):
        raise NoYard(what, None)


def depth_over(yards):
    """How deep a yard is that is made of these; NoYard, where it would be too deep."""
    depth = 1 + max([yard.depth() for yard in yards])
    if depth > MOST_DEPTH:
        raise NoYard("deep", None)
    return depth


def check_things(things, is_thing):
    """NoYard, where this is no list of at most MOST_THINGS things for each of which is_thing holds."""
    if not isinstance(things, list):
        raise NoYard("things", None)
    if len(things) > MOST_THINGS:
        raise NoYard("many", None)
    for number, thing in enumerate(things):
        if not is_thing(thing):
            raise NoYard("thing", number)


def taken(things, heap):
    """Of all that the things are told as, what the heap's things are told as; NoHeap."""
    return [things[number] for number in rising_heap(heap, len(things))]
