"""Papers: why a box answered as it did."""

from noaslong.errors import NotAsked
from noaslong.heaps import but
from noaslong.rings import fence_with, ring_with


def paper(box, thing):
    """A right paper of what the box said to the thing, for what was told up to it; NoThing, NotAsked."""
    answer = box.told(thing)
    if answer is None:
        raise NotAsked(thing)
    yard = box.yard()
    # The box could count on these when it was asked, and on nothing else.
    others = but(yard.things(), [*told_no_ahead(box, thing), thing])
    if answer:
        return ("fence", fence_with(yard, others, thing))
    return ("ring", ring_with(yard, others, thing))


def told_no_ahead(box, thing):
    """What the box had said no to when the thing was asked."""
    asked = box.asked()
    return [earlier for earlier in asked[:asked.index(thing)] if not box.told(earlier)]


def papers(box):
    """A right paper of each answer of the box, in the order of asking."""
    return [paper(box, thing) for thing in box.asked()]
