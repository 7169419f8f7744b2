"""Two yards side by side."""

from noaslong.errors import NoYard
from noaslong.heaps import MOST_THINGS, rising_heap
from noaslong.yards import Yard, check_yard, depth_over


class Beside(Yard):
    """The things of the one yard, then those of the other, numbered on; a heap is worth what it is in both."""

    def __init__(self, one, other):
        check_yard(one, "one")
        check_yard(other, "other")
        if one.many() + other.many() > MOST_THINGS:
            raise NoYard("many", None)
        self.layers = depth_over([one, other])
        self.first = one
        self.second = other

    def one(self):
        """The yard whose things come first."""
        return self.first

    def other(self):
        """The yard whose things come behind those of the first one."""
        return self.second

    def depth(self):
        """How many yards that are made of yards stand within one another here."""
        return self.layers

    def many(self):
        """How many things there are."""
        return self.first.many() + self.second.many()

    def things(self):
        """The heap of all things."""
        return list(range(self.many()))

    def worth(self, heap):
        """What the heap's things are worth in the one yard and in the other, together; NoHeap."""
        own = rising_heap(heap, self.many())
        start = self.first.many()
        here = [thing for thing in own if thing < start]
        there = [thing - start for thing in own if thing >= start]
        return self.first.worth(here) + self.second.worth(there)

    def whole(self):
        """What all things are worth."""
        return self.first.whole() + self.second.whole()

    def __eq__(self, other):
        return isinstance(other, Beside) and self.first == other.first and self.second == other.second

    def __len__(self):
        return len(self.things())

    def __repr__(self):
        return f"Beside({self.first!r}, {self.second!r})"
