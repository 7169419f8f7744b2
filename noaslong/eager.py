"""Eager boxes, which say yes as long as it adds something."""

from noaslong.boxes import Asked
from noaslong.carrying import carries


class Eager(Asked):
    """Says yes to a thing where what it has said yes to does not carry it."""

    def __init__(self, yard):
        super().__init__(yard)

    def says(self, thing):
        """Whether it would say yes to the thing, which is unasked."""
        return not carries(self.ground, self.yes(), thing)

    # The interface wants each of these methods in the class itself, though they are alike for all that is asked.

    def yard(self):
        """The yard whose things are asked."""
        return super().yard()

    def ask(self, thing):
        """Whether it says yes to the thing; NoThing."""
        return super().ask(thing)

    def play(self, things):
        """What it says to each of the things, asked one after another; NoThing, ahead of any ask."""
        return super().play(things)

    def told(self, thing):
        """What it said to the thing, or None where that is unasked; NoThing."""
        return super().told(thing)

    def yes(self):
        """The heap of what it has said yes to."""
        return super().yes()

    def no(self):
        """The heap of what it has said no to."""
        return super().no()

    def unasked(self):
        """The heap of what was not asked yet."""
        return super().unasked()

    def asked(self):
        """The things asked, in order."""
        return super().asked()

    def answers(self):
        """The things asked, each with what was said to it, in order."""
        return super().answers()

    def back(self):
        """The thing asked last, which is unasked from now on; NotAsked."""
        return super().back()

    def copied(self):
        """An eager box that stands alike, and goes its own way from now on."""
        twin = Eager(self.ground)
        twin.said = dict(self.said)
        return twin

    def __eq__(self, other):
        return isinstance(other, Eager) and self.ground == other.ground and list(self.said) == list(other.said)

    def __len__(self):
        return len(self.said)
