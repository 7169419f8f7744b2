"""Boxes, which say no as long as they can."""

from noaslong.carrying import fulfils
from noaslong.errors import NotAsked
from noaslong.heaps import but, check_thing, joined
from noaslong.yards import check_yard


class Asked:
    """Of this things are asked; each kind says in its own way, and none is made of this one itself."""

    def __init__(self, yard):
        check_yard(yard, "yard")
        self.ground = yard
        # What was said, by the thing; the things stand in the order in which they were asked.
        self.said = {}

    def says(self, thing):
        """Whether it would say yes to the thing, which is unasked."""
        raise NotImplementedError("each kind says in its own way")

    def yard(self):
        """The yard whose things are asked."""
        return self.ground

    def ask(self, thing):
        """Whether it says yes to the thing; NoThing."""
        check_thing(thing, self.ground.many())
        if thing not in self.said:
            self.said[thing] = self.says(thing)
        return self.said[thing]

    def play(self, things):
        """What it says to each of the things, asked one after another; NoThing, ahead of any ask."""
        asks = list(things)
        for thing in asks:
            check_thing(thing, self.ground.many())
        return [self.ask(thing) for thing in asks]

    def told(self, thing):
        """What it said to the thing, or None where that is unasked; NoThing."""
        check_thing(thing, self.ground.many())
        return self.said.get(thing)

    def yes(self):
        """The heap of what it has said yes to."""
        return sorted([thing for thing in self.said if self.said[thing]])

    def no(self):
        """The heap of what it has said no to."""
        return sorted([thing for thing in self.said if not self.said[thing]])

    def unasked(self):
        """The heap of what was not asked yet."""
        return but(self.ground.things(), list(self.said))

    def asked(self):
        """The things asked, in order."""
        return list(self.said)

    def answers(self):
        """The things asked, each with what was said to it, in order."""
        return list(self.said.items())

    def back(self):
        """The thing asked last, which is unasked from now on; NotAsked."""
        if not self.said:
            raise NotAsked(None)
        thing = list(self.said)[-1]
        del self.said[thing]
        return thing


class Box(Asked):
    """Says no as long as what it has said yes to, and what else is unasked, fulfil together."""

    def __init__(self, yard):
        super().__init__(yard)

    def says(self, thing):
        """Whether it would say yes to the thing, which is unasked."""
        others = but(self.unasked(), [thing])
        return not fulfils(self.ground, joined(self.yes(), others))

    # The interface wants each of these methods in the class itself, though they are alike for all that is asked.

    def yard(self):
        """The yard whose things are asked."""
        return super().yard()

    def ask(self, thing):
        """Whether it says yes to the thing; NoThing."""
        return super().ask(thing)

    def play(self, things):
        """What it says to each of the things, asked one after another; NoThing, ahead of any ask."""
        return super().play(things)

    def told(self, thing):
        """What it said to the thing, or None where that is unasked; NoThing."""
        return super().told(thing)

    def yes(self):
        """The heap of what it has said yes to."""
        return super().yes()

    def no(self):
        """The heap of what it has said no to."""
        return super().no()

    def unasked(self):
        """The heap of what was not asked yet."""
        return super().unasked()

    def asked(self):
        """The things asked, in order."""
        return super().asked()

    def answers(self):
        """The things asked, each with what was said to it, in order."""
        return super().answers()

    def back(self):
        """The thing asked last, which is unasked from now on; NotAsked."""
        return super().back()

    def copied(self):
        """A box that stands alike, and goes its own way from now on."""
        twin = Box(self.ground)
        twin.said = dict(self.said)
        return twin

    def __eq__(self, other):
        return isinstance(other, Box) and self.ground == other.ground and list(self.said) == list(other.said)

    def __len__(self):
        return len(self.said)
