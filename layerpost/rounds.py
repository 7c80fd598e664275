"""Rounds: rows of slots that come again for ever, each a flow's own or idle."""

from layerpost.checks import is_from_zero, is_integer, is_name, is_within
from layerpost.errors import BadName, BadNumber, BadRound, BadText, TooMany
from layerpost.words import words_of


def is_slot(value):
    """Whether any value is a slot: a name, or None for an idle one."""
    return value is None or is_name(value)


class Round:
    """A row of slots, one a tick, that comes again for ever. It never changes."""

    MOST = 24

    def __init__(self, *slots):
        if len(slots) == 0:
            raise BadRound("slots")
        for at, slot in enumerate(slots):
            if not is_slot(slot):
                raise BadRound(at)
        if len(slots) > Round.MOST:
            raise TooMany("slots", Round.MOST)
        self.slots = slots

    def __len__(self):
        return len(self.slots)

    def __iter__(self):
        return iter(self.slots)

    def __contains__(self, x):
        return is_name(x) and x in self.slots

    def __getitem__(self, at):
        if not is_within(at, 0, len(self.slots) - 1):
            raise BadNumber(at)
        return self.slots[at]

    def __call__(self, tick):
        if not is_integer(tick):
            raise BadNumber(tick)
        return self.slots[tick % len(self.slots)]

    def own(self, flow):
        """The ascending tuple of the places of a flow's slots."""
        if not is_name(flow):
            raise BadName(flow)
        return tuple([place for place, slot in enumerate(self.slots) if slot == flow])

    def flow_names(self):
        """The ascending tuple of the names of the flows that have slots."""
        return tuple(sorted(set([slot for slot in self.slots if slot is not None])))

    def __add__(self, other):
        if not isinstance(other, Round):
            raise BadRound("other")
        slots = self.slots + other.slots
        return Round(*slots)

    def __mul__(self, other):
        if not is_within(other, 1, Round.MOST):
            raise BadNumber(other)
        slots = self.slots * other
        return Round(*slots)

    def __rmul__(self, other):
        if not is_within(other, 1, Round.MOST):
            raise BadNumber(other)
        slots = self.slots * other
        return Round(*slots)

    def __lshift__(self, other):
        if not is_from_zero(other):
            raise BadNumber(other)
        place = other % len(self.slots)
        slots = self.slots[place:] + self.slots[:place]
        return Round(*slots)

    def with_slot(self, place, flow):
        """The round with another slot at a place."""
        if not is_within(place, 0, len(self.slots) - 1):
            raise BadNumber(place)
        if not is_slot(flow):
            raise BadName(flow)
        slots = list(self.slots)
        slots[place] = flow
        return Round(*slots)

    def __eq__(self, other):
        return isinstance(other, Round) and self.slots == other.slots

    def is_like(self, other):
        """Whether the other round is this one, begun at some place."""
        if not isinstance(other, Round):
            raise BadRound("other")
        return any([self << place == other for place in range(len(self.slots))])

    def __str__(self):
        return " ".join(["-" if slot is None else slot for slot in self.slots])

    @classmethod
    def read(cls, text):
        """The round with this text."""
        words = words_of(text)
        for at, word in enumerate(words):
            if at == Round.MOST or word != "-" and not is_name(word):
                raise BadText(0, at)
        slots = [None if word == "-" else word for word in words]
        return cls(*slots)
