"""Parts of yards: some things given away, some granted."""

from noaslong.errors import NoYard
from noaslong.heaps import but, check_thing, common, is_heap, joined
from noaslong.yards import Yard, check_yard, depth_over, taken


class Part(Yard):
    """The things that are neither given away nor granted; a heap is worth what it adds to the granted ones."""

    def __init__(self, yard, *, away=(), granted=()):
        check_yard(yard, "yard")
        gone = rising_choice(away, yard.many(), "away")
        sure = rising_choice(granted, yard.many(), "granted")
        if common(gone, sure):
            raise NoYard("both", None)
        self.layers = depth_over([yard])
        self.base = yard
        self.gone = tuple(gone)
        self.sure = tuple(sure)
        # Yards never change, so this need not be reckoned again at each worth, on each layer.
        self.sure_worth = yard.worth(sure)
        # The number that each thing has in the yard, by its number here.
        self.old_of = tuple(but(yard.things(), gone + sure))

    def of(self):
        """The yard whose part this is."""
        return self.base

    def away(self):
        """The heap of the yard's things that were given away."""
        return list(self.gone)

    def granted(self):
        """The heap of the yard's things that were granted."""
        return list(self.sure)

    def old(self, thing):
        """The number that the thing has in the yard; NoThing."""
        check_thing(thing, self.many())
        return self.old_of[thing]

    def new(self, thing):
        """The number here of a thing of the yard, None of one that was given away or granted; NoThing."""
        check_thing(thing, self.base.many())
        return self.old_of.index(thing) if thing in self.old_of else None

    def depth(self):
        """How many yards that are made of yards stand within one another here."""
        return self.layers

    def many(self):
        """How many things there are."""
        return len(self.old_of)

    def things(self):
        """The heap of all things."""
        return list(range(len(self.old_of)))

    def worth(self, heap):
        """What the heap and the granted ones are worth in the yard, less what the granted ones are; NoHeap."""
        own = taken(self.old_of, heap)
        return self.base.worth(joined(own, self.granted())) - self.sure_worth

    def whole(self):
        """What all things are worth."""
        return self.worth(self.things())

    def __eq__(self, other):
        if not isinstance(other, Part):
            return False
        return self.base == other.base and self.gone == other.gone and self.sure == other.sure

    def __len__(self):
        return len(self.old_of)

    def __repr__(self):
        return f"Part({self.base!r}, away={self.away()!r}, granted={self.granted()!r})"


def rising_choice(things, many, what):
    """A rising copy of a heap, or of the tuple of nothing; NoYard, of anything else."""
    chosen = [] if isinstance(things, tuple) and len(things) == 0 else things
    if not is_heap(chosen, many):
        raise NoYard(what, None)
    return sorted(chosen)
