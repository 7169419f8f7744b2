"""Yards of lots that count up to a number."""

from noaslong.errors import NoYard
from noaslong.kinds import is_whole
from noaslong.yards import Yard, check_things, taken

MOST_LOTS = 8
MOST_TOP = 24


class Lots(Yard):
    """Each thing is of a lot; a heap is worth how many of it there are in each lot, up to its top, added up."""

    def __init__(self, tops, lots):
        if not are_tops(tops):
            raise NoYard("tops", None)
        check_things(lots, lambda lot: is_whole(lot, 0, len(tops) - 1))
        self.top_of = tuple(tops)
        self.lot_of = tuple(lots)

    def tops(self):
        """The tops of the lots, as they were handed in."""
        return list(self.top_of)

    def lots(self):
        """The numbers of the things' lots, as they were handed in."""
        return list(self.lot_of)

    def many(self):
        """How many things there are."""
        return len(self.lot_of)

    def things(self):
        """The heap of all things."""
        return list(range(len(self.lot_of)))

    def worth(self, heap):
        """How many things of the heap each lot counts, added up; NoHeap."""
        return lots_worth(self.top_of, taken(self.lot_of, heap))

    def whole(self):
        """What all things are worth."""
        return lots_worth(self.top_of, self.lot_of)

    def __eq__(self, other):
        return isinstance(other, Lots) and self.top_of == other.top_of and self.lot_of == other.lot_of

    def __len__(self):
        return len(self.lot_of)

    def __repr__(self):
        return f"Lots({self.tops()!r}, {self.lots()!r})"


def are_tops(tops):
    """Whether this, of anything, is a list of tops of at most MOST_LOTS lots."""
    if not isinstance(tops, list) or len(tops) > MOST_LOTS:
        return False
    return all([is_whole(top, 0, MOST_TOP) for top in tops])


def lots_worth(tops, lots):
    """How many of the lots' numbers there are of each lot, but its top at most, added up."""
    return sum([min(top, lots.count(lot)) for lot, top in enumerate(tops)])
