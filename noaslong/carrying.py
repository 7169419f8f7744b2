"""What a heap carries, and whether it fulfils or is free.

All of it is told of any yard by its worths alone. Of these it is sure that nothing is worth 0, that a thing more
makes a heap worth as much or 1 more, and that two heaps are worth no less than joined and common together.
"""

from noaslong.heaps import check_thing, joined, rising_heap


def carries(yard, heap, thing):
    """Whether the heap is worth no more with the thing; NoHeap, NoThing."""
    own = rising_heap(heap, yard.many())
    check_thing(thing, yard.many())
    return yard.worth(joined(own, [thing])) == yard.worth(own)


def fulfils(yard, heap):
    """Whether the heap is worth as much as all things; NoHeap."""
    return yard.worth(heap) == yard.whole()


def is_idle(yard, thing):
    """Whether the heap of nothing carries the thing; NoThing."""
    return carries(yard, [], thing)


def is_free(yard, heap):
    """Whether none of the heap's things is carried by its others; NoHeap."""
    # Where none is, each makes the ones ahead of it worth 1 more; where one is, it adds nothing to the others.
    return yard.worth(heap) == len(heap)


def carried(yard, heap):
    """The heap of all things that the heap carries; NoHeap."""
    # Looked at here too, as a yard without things has none of which carries would.
    own = rising_heap(heap, yard.many())
    return [thing for thing in yard.things() if carries(yard, own, thing)]
