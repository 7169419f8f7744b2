"""Yards of things on seats."""

from noaslong.errors import NoYard
from noaslong.heaps import is_heap, rising_heap
from noaslong.kinds import is_whole
from noaslong.yards import Yard, check_things

MOST_SEATS = 12


class Seats(Yard):
    """Each thing may sit on some seats; a heap is worth the most of its things that can sit at once."""

    def __init__(self, seats, rows):
        if not is_whole(seats, 0, MOST_SEATS):
            raise NoYard("seats", None)
        # Seats are numbered as things are, so a list of some of them, each once, is what a heap is.
        check_things(rows, lambda row: is_heap(row, seats))
        self.seat_count = seats
        self.seat_rows = tuple([tuple(row) for row in rows])

    def seats(self):
        """How many seats there are."""
        return self.seat_count

    def rows(self):
        """The seats of each thing, as they were handed in."""
        return [list(row) for row in self.seat_rows]

    def many(self):
        """How many things there are."""
        return len(self.seat_rows)

    def things(self):
        """The heap of all things."""
        return list(range(len(self.seat_rows)))

    def worth(self, heap):
        """The most things of the heap that can sit at once; NoHeap."""
        return len(seated(self.seat_rows, rising_heap(heap, len(self.seat_rows))))

    def whole(self):
        """What all things are worth."""
        return len(seated(self.seat_rows, self.things()))

    def __eq__(self, other):
        return isinstance(other, Seats) and self.seat_count == other.seat_count and self.seat_rows == other.seat_rows

    def __len__(self):
        return len(self.seat_rows)

    def __repr__(self):
        return f"Seats({self.seat_count}, {self.rows()!r})"


def sitting(yard, heap):
    """Some sitting of as many of the heap's things as it is worth: tuples (thing, seat), things rising; NoHeap."""
    sitters = seated(yard.rows(), rising_heap(heap, yard.many()))
    return sorted([(sitters[seat], seat) for seat in sitters])


def seated(rows, heap):
    """As many of the heap's things as can sit at once, each by its seat."""
    sitters = {}
    for thing in heap:
        # A thing that finds no seat now would find none later either: who sits once never stands up for good.
        find_seat(rows, thing, sitters, {})
    return sitters


def find_seat(rows, thing, sitters, tried):
    """Whether the thing finds a seat that was not tried, where those who sit may move to others; it sits there then."""
    for seat in rows[thing]:
        if seat not in tried:
            tried[seat] = True
            if seat not in sitters or find_seat(rows, sitters[seat], sitters, tried):
                sitters[seat] = thing
                return True
    return False
