"""What is left of a box."""

from noaslong.parts import Part


def rest_of(box):
    """The part of its yard: what it said no to given away, what it said yes to granted; NoYard, where it is deep."""
    return Part(box.yard(), away=box.no(), granted=box.yes())
