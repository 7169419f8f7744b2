"""Halls: one box, and many who ask it."""

from noaslong.boxes import Box
from noaslong.carrying import fulfils
from noaslong.errors import NoSuch, NotAsked
from noaslong.kinds import is_name


class Hall:
    """Has a box, and askers by their names; each has heard what it asked."""

    def __init__(self, yard):
        self.inner = Box(yard)
        # Who asked and what, in order, those told again too.
        self.asks = []

    def yard(self):
        """The yard whose things are asked."""
        return self.inner.yard()

    def hear(self, name, thing):
        """What is answered where the asker of this name asks; NoSuch, NoThing."""
        if not is_name(name):
            raise NoSuch(name)
        answer = self.inner.ask(thing)
        self.asks.append((name, thing))
        return answer

    def askers(self):
        """The names of those that asked, in the order of their first asks."""
        return list({name: True for name, thing in self.asks})

    def heard(self, name):
        """What the asker asked, each thing once, with what was answered, in order; NoSuch."""
        # Something else may say that it is equal to a name, and is no asker.
        if not is_name(name) or name not in self.askers():
            raise NoSuch(name)
        things = list({thing: True for asker, thing in self.asks if asker == name})
        return [(thing, self.inner.told(thing)) for thing in things]

    def is_open_to(self, name):
        """Whether what the asker heard a yes to does not fulfil; NoSuch."""
        return not fulfils(self.yard(), [thing for thing, truth in self.heard(name) if truth])

    def back(self):
        """Who asked last and what, as if it had not been from now on; NotAsked."""
        if not self.asks:
            raise NotAsked(None)
        name, thing = self.asks.pop()
        # Where no one asked it ahead, it was this ask that the box was asked last.
        if thing not in [earlier for asker, earlier in self.asks]:
            self.inner.back()
        return (name, thing)

    def box(self):
        """A copy of the box."""
        return self.inner.copied()

    def __len__(self):
        return len(self.asks)
