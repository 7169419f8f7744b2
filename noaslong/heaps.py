"""Heaps: lists of numbers of things."""

from noaslong.errors import NoHeap, NoThing, TooMany
from noaslong.kinds import is_whole

MOST_THINGS = 24
MOST_HEAPS = 4096


def is_heap(things, many):
    """Whether this, of anything, is a heap of a yard of so many things."""
    # There is no yard of fewer than no things, or of more than MOST_THINGS, and so no heap of one.
    if not isinstance(things, list) or not is_whole(many, 0, MOST_THINGS):
        return False
    if not all([is_whole(thing, 0, many - 1) for thing in things]):
        return False
    return len(set(things)) == len(things)


def rising_heap(heap, many):
    """A copy of the heap, its numbers rising; NoHeap."""
    if not is_heap(heap, many):
        raise NoHeap("no heap of a yard of so many things")
    return sorted(heap)


def check_thing(thing, many):
    """NoThing, where this, of anything, is no thing of a yard of so many things."""
    if not is_whole(thing, 0, many - 1):
        raise NoThing(thing)


def joined(one, other):
    """The things in either heap; NoHeap."""
    # Here and below no yard is named, so each is a heap if it is one of the largest yard.
    first = rising_heap(one, MOST_THINGS)
    second = rising_heap(other, MOST_THINGS)
    return sorted(set(first + second))


def common(one, other):
    """The things in both heaps; NoHeap."""
    first = rising_heap(one, MOST_THINGS)
    second = rising_heap(other, MOST_THINGS)
    return [thing for thing in first if thing in second]


def but(one, other):
    """The things of the one heap that are not in the other; NoHeap."""
    first = rising_heap(one, MOST_THINGS)
    second = rising_heap(other, MOST_THINGS)
    return [thing for thing in first if thing not in second]


def all_heaps(many, *, limit=MOST_HEAPS):
    """All heaps of so many things, those of fewer things first; TooMany where there are more than limit."""
    if has_more_heaps(many, limit):
        raise TooMany(limit)
    heaps = [[]]
    longest = [[]]
    for size in range(many):
        longest = one_longer(longest, many)
        heaps.extend(longest)
    return heaps


def has_more_heaps(many, limit):
    """Whether so many things have more heaps than limit."""
    count = 1
    for thing in range(many):
        # Stopping here keeps the count small, however many things are handed in.
        if count > limit:
            return True
        count += count
    return count > limit


def one_longer(heaps, many):
    """Each heap with each number that is greater than its last one behind it, in the order of all_heaps."""
    longer = []
    for heap in heaps:
        least = heap[-1] + 1 if heap else 0
        longer.extend([[*heap, thing] for thing in range(least, many)])
    return longer
