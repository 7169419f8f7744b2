"""Least heaps: those that fulfil, and do not without any one of their things."""

from noaslong.carrying import carries
from noaslong.errors import NoOrder, NoThing, NotLeast
from noaslong.heaps import MOST_HEAPS, all_heaps, but, is_heap, joined, rising_heap
from noaslong.kinds import is_whole


def is_least(yard, heap):
    """Whether the heap fulfils, and does not without any one of its things; NoHeap."""
    # A heap that fulfils can spare a thing that its others carry. Where there is none, it is worth its length.
    return yard.worth(heap) == len(heap) == yard.whole()


def least_heap(yard, heap):
    """A copy of the least heap, its numbers rising; NotLeast, of anything else."""
    if not is_heap(heap, yard.many()) or not is_least(yard, heap):
        raise NotLeast("no least heap of the yard")
    return rising_heap(heap, yard.many())


def check_order(order, many):
    """NoOrder, where this, of anything, is no order of so many things."""
    if not is_heap(order, many) or len(order) != many:
        raise NoOrder("no order of all things of the yard")


def first_least(yard, order):
    """The least heap first in the order: each thing is taken that those taken ahead do not carry; NoOrder."""
    check_order(order, yard.many())
    chosen = []
    for thing in order:
        if not carries(yard, chosen, thing):
            chosen.append(thing)
    return sorted(chosen)


def exchange(yard, one, other, thing):
    """Some thing of the other heap alone that may be exchanged for the thing of the one alone; NotLeast, NoThing."""
    first = least_heap(yard, one)
    second = least_heap(yard, other)
    # True is no thing, but Python would find it in a list that has 1.
    if not is_whole(thing, 0, yard.many() - 1) or thing not in but(first, second):
        raise NoThing(thing)
    # Of two least heaps there always is such a thing [16].
    return min([there for there in but(second, first) if are_exchanged(yard, first, second, thing, there)])


def are_exchanged(yard, one, other, here, there):
    """Whether both heaps are least again, the thing here of the one exchanged for the thing there of the other."""
    changed_one = joined(but(one, [here]), [there])
    changed_other = joined(but(other, [there]), [here])
    return is_least(yard, changed_one) and is_least(yard, changed_other)


def all_least(yard, *, limit=MOST_HEAPS):
    """All least heaps, in the order of all_heaps; TooMany, where the yard has more heaps than limit."""
    return [heap for heap in all_heaps(yard.many(), limit=limit) if is_least(yard, heap)]
