"""Mirrors of yards."""

from noaslong.heaps import but, rising_heap
from noaslong.yards import Yard, check_yard, depth_over


class Mirror(Yard):
    """The same things; a heap is worth its length, less what the things out of it lack to fulfil in the yard."""

    def __init__(self, yard):
        check_yard(yard, "yard")
        self.layers = depth_over([yard])
        self.base = yard
        # Yards never change, so this need not be reckoned again at each worth, on each layer.
        self.base_whole = yard.whole()

    def of(self):
        """The yard whose mirror this is."""
        return self.base

    def depth(self):
        """How many yards that are made of yards stand within one another here."""
        return self.layers

    def many(self):
        """How many things there are."""
        return self.base.many()

    def things(self):
        """The heap of all things."""
        return self.base.things()

    def worth(self, heap):
        """The heap's length and what the things out of it are worth, less what all are worth; NoHeap."""
        own = rising_heap(heap, self.many())
        return len(own) + self.base.worth(but(self.things(), own)) - self.base_whole

    def whole(self):
        """What all things are worth."""
        return self.worth(self.things())

    def __eq__(self, other):
        return isinstance(other, Mirror) and self.base == other.base

    def __len__(self):
        return len(self.things())

    def __repr__(self):
        return f"Mirror({self.base!r})"
