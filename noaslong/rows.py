"""Yards of rows of bits."""

from noaslong.kinds import is_whole
from noaslong.yards import Yard, check_things, taken

MOST_ROW = 4095


class Rows(Yard):
    """Each thing is a row of twelve bits; a heap is worth the most rows of which none is a sum of others."""

    def __init__(self, rows):
        check_things(rows, lambda row: is_whole(row, 0, MOST_ROW))
        self.bits = tuple(rows)

    def rows(self):
        """The rows, as they were handed in."""
        return list(self.bits)

    def many(self):
        """How many things there are."""
        return len(self.bits)

    def things(self):
        """The heap of all things."""
        return list(range(len(self.bits)))

    def worth(self, heap):
        """The most rows of the heap of which none is a sum of others; NoHeap."""
        return rows_worth(taken(self.bits, heap))

    def whole(self):
        """What all things are worth."""
        return rows_worth(self.bits)

    def __eq__(self, other):
        return isinstance(other, Rows) and self.bits == other.bits

    def __len__(self):
        return len(self.bits)

    def __repr__(self):
        return f"Rows({self.rows()!r})"


def rows_worth(rows):
    """How many of the rows, taken one after another, are no sum of rows ahead of them."""
    heads = []
    for row in rows:
        rest = row
        for head in heads:
            # The lesser one lacks the head's highest bit. No later head has that bit, so it stays away,
            # and what is left in the end is 0 just where the row is a sum of the heads.
            rest = min(rest, rest ^ head)
        if rest != 0:
            heads.append(rest)
    return len(heads)
