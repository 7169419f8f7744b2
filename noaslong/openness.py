"""Worlds: what may still come of a box, and whether that is settled."""

from noaslong.carrying import fulfils, is_idle
from noaslong.heaps import but, common, joined, rising_heap


def is_world(box, heap):
    """Whether the heap has all that the box said yes to, and nothing to which it said no; NoHeap."""
    own = rising_heap(heap, box.yard().many())
    return but(box.yes(), own) == [] and common(own, box.no()) == []


def largest_world(box):
    """The world that has all that was not asked yet."""
    return joined(box.yes(), box.unasked())


def is_open(box):
    """Whether some world of the box fulfils and some does not; else it is settled."""
    # A thing more makes no heap worth less, so the largest world and the least one decide.
    return fulfils(box.yard(), largest_world(box)) and not fulfils(box.yard(), box.yes())


def counting(box):
    """The heap of what counts: the unasked things that are not idle."""
    return [thing for thing in box.unasked() if not is_idle(box.yard(), thing)]


def two_worlds(box):
    """A world that fulfils and one that does not, or None where the box is settled."""
    if not is_open(box):
        return None
    return (largest_world(box), box.yes())


def many_worlds(box):
    """How many worlds the box has."""
    count = 1
    for thing in box.unasked():
        # It may be in or not, whatever the others are.
        count += count
    return count
