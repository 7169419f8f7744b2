"""What all yards have."""


class Yard:
    """The yard of some sort; each sort is a class of its own, and none is made of this one itself."""

    def many(self):
        """How many things there are."""
        raise NotImplementedError("each sort of yard tells this")

    def things(self):
        """The heap of all things."""
        return list(range(self.many()))

    def worth(self, heap):
        """What the heap is worth; NoHeap."""
        raise NotImplementedError("each sort of yard tells this")

    def whole(self):
        """What all things are worth."""
        return self.worth(self.things())

    def __eq__(self, other):
        # A yard's repr shows its sort and all that it is made of, in order.
        return isinstance(other, Yard) and repr(self) == repr(other)

    def __len__(self):
        return len(self.things())

    def __repr__(self):
        return "Yard()"
