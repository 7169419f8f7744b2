"""Orders: which heap was asked later, and which least heap last."""

from noaslong.errors import NoOrder
from noaslong.heaps import but, rising_heap
from noaslong.least import check_order, first_least, least_heap


def is_later(order, one, other):
    """Whether the one heap has the thing at the latest time at which just one of them has one; NoOrder, NoHeap."""
    if not isinstance(order, list):
        raise NoOrder("no list")
    # No yard is named, so it is an order if it is one of as many things as it has.
    check_order(order, len(order))
    first = rising_heap(one, len(order))
    second = rising_heap(other, len(order))
    for thing in reversed(order):
        if (thing in first) != (thing in second):
            return thing in first
    return False


def last_least(yard, order):
    """The least heap asked last: no least heap is later in this order; NoOrder."""
    check_order(order, yard.many())
    # Taking the latest things first, as many as can be, leaves none that another least heap has later.
    return first_least(yard, order[::-1])


def order_for(yard, heap):
    """Some order whose least heap asked last this is; NotLeast, of anything that is none."""
    own = least_heap(yard, heap)
    return but(yard.things(), own) + own
