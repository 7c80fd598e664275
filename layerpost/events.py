"""What happened in a play of a net."""


class Event:
    """What happened at a tick: a word, the flow, the name of a place, the mark; None where there is none."""

    def __init__(self, tick, word, flow, name, mark):
        self.tick = tick
        self.word = word
        self.flow = flow
        self.name = name
        self.mark = mark

    def __eq__(self, other):
        return isinstance(other, Event) and self.tick == other.tick and self.word == other.word and (
            self.flow == other.flow) and self.name == other.name and self.mark == other.mark

    def __str__(self):
        return " ".join(["-" if part is None else str(part)
                         for part in (self.tick, self.word, self.flow, self.name, self.mark)])
