"""Rings and fences: why a thing is carried, or is not."""

from noaslong.carrying import carries, fulfils, is_free
from noaslong.errors import NoHeap
from noaslong.heaps import but, check_thing, joined, rising_heap


def is_ring(yard, heap):
    """Whether each thing of the heap is carried by its others, and no fewer of its things are such a heap; NoHeap."""
    own = rising_heap(heap, yard.many())
    # A heap that is not free has a ring in it, and a free one has none. So this heap has one, and fewer have none.
    return not is_free(yard, own) and all([is_free(yard, but(own, [thing])) for thing in own])


def is_fence(yard, heap):
    """Whether the things out of the heap do not fulfil; NoHeap."""
    own = rising_heap(heap, yard.many())
    return not fulfils(yard, but(yard.things(), own))


def is_least_fence(yard, heap):
    """Whether the things out of the heap do not fulfil, but do with any one of its things more; NoHeap."""
    own = rising_heap(heap, yard.many())
    out = but(yard.things(), own)
    return is_fence(yard, own) and all([fulfils(yard, joined(out, [thing])) for thing in own])


def ring_with(yard, heap, thing):
    """A ring that has the thing, its others all of the heap, or None; NoHeap, NoThing, NoHeap of a heap that has it."""
    rest = heap_without(yard, heap, thing)
    if not carries(yard, rest, thing):
        return None
    # What is left when none can be spared any more carries the thing by all of it together.
    for other in list(rest):
        fewer = but(rest, [other])
        if carries(yard, fewer, thing):
            rest = fewer
    return joined(rest, [thing])


def fence_with(yard, heap, thing):
    """A least fence that has the thing and none of the heap's, or None; refuses as ring_with does."""
    kept = heap_without(yard, heap, thing)
    if carries(yard, kept, thing):
        return None
    # What is kept when none can be added any more lacks just 1 of the whole, and each thing out of it brings that.
    for other in yard.things():
        more = joined(kept, [other])
        if not carries(yard, more, thing):
            kept = more
    return but(yard.things(), kept)


def heap_without(yard, heap, thing):
    """A copy of the heap, its numbers rising; NoHeap, NoThing, then NoHeap where the thing is in it."""
    own = rising_heap(heap, yard.many())
    check_thing(thing, yard.many())
    if thing in own:
        raise NoHeap("the thing is in the heap")
    return own
