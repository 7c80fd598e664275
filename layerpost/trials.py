"""Blocks behind which a thing that changes is as it was: for players and desks.

Such a thing keeps in now what it is, which never changes, and in past the list
of what can be taken back.
"""


class Held:
    """What a thing was when a block was entered, and what is kept of the blocks around it."""

    def __init__(self, thing, under):
        self.now = thing.now
        self.past = list(thing.past)
        self.under = under


class Trial:
    """A block behind which the thing is as it was."""

    def __init__(self, thing):
        self.thing = thing
        self.held = None

    def __enter__(self):
        self.held = Held(self.thing, self.held)
        return self.thing

    def __exit__(self, kind, value, trace):
        self.thing.now = self.held.now
        self.thing.past = self.held.past
        self.held = self.held.under


class Attempt:
    """A block, entered once, behind which the thing is as it was if an error leaves it."""

    def __init__(self, thing):
        self.thing = thing
        self.held = Held(thing, None)

    def __enter__(self):
        return self.thing

    def __exit__(self, kind, value, trace):
        if kind is not None:
            self.thing.now = self.held.now
            self.thing.past = self.held.past
