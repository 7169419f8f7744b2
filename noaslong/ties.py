"""Yards of ties between places."""

from noaslong.errors import NoYard
from noaslong.kinds import is_whole
from noaslong.yards import Yard, check_things, taken

MOST_PLACES = 12


class Ties(Yard):
    """Each thing ties two places; a heap is worth how many pieces fewer there are than places."""

    def __init__(self, places, pairs):
        if not is_whole(places, 1, MOST_PLACES):
            raise NoYard("places", None)
        check_things(pairs, lambda pair: is_tie(pair, places))
        self.place_count = places
        self.ties = tuple([(one, other) for one, other in pairs])

    def places(self):
        """How many places there are."""
        return self.place_count

    def pairs(self):
        """The ties, as they were handed in."""
        return list(self.ties)

    def many(self):
        """How many things there are."""
        return len(self.ties)

    def things(self):
        """The heap of all things."""
        return list(range(len(self.ties)))

    def worth(self, heap):
        """How many places there are, less the pieces into which they fall; NoHeap."""
        return ties_worth(self.place_count, taken(self.ties, heap))

    def whole(self):
        """What all things are worth."""
        return ties_worth(self.place_count, self.ties)

    def __eq__(self, other):
        return isinstance(other, Ties) and self.place_count == other.place_count and self.ties == other.ties

    def __len__(self):
        return len(self.ties)

    def __repr__(self):
        return f"Ties({self.place_count}, {self.pairs()!r})"


def is_tie(pair, places):
    """Whether this, of anything, is a tuple of two of so many places."""
    if not isinstance(pair, tuple) or len(pair) != 2:
        return False
    return all([is_whole(place, 0, places - 1) for place in pair])


def ties_worth(places, ties):
    """How many of the ties, taken one after another, join two pieces: so many pieces fewer there are at the end."""
    piece_of = list(range(places))
    worth = 0
    for one, other in ties:
        kept, gone = piece_of[one], piece_of[other]
        if kept != gone:
            piece_of = [kept if piece == gone else piece for piece in piece_of]
            worth += 1
    return worth
