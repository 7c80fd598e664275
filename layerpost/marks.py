"""Senders and receivers: marks that letters of a flow carry by turns."""

from layerpost.checks import is_way_word, is_within
from layerpost.errors import BadNumber, BadPair

MOST_MARKS = 6


def check_marks(marks):
    """Raises if any value is no number of marks."""
    if not is_within(marks, 1, MOST_MARKS):
        raise BadPair("marks")


class Sender:
    """Who sends letters, one at a time. It never changes."""

    def __init__(self, marks=2, mark=0, way="first", waits=False):
        check_marks(marks)
        if not is_within(mark, 0, marks - 1):
            raise BadPair("mark")
        if not is_way_word(way):
            raise BadPair("way")
        if not isinstance(waits, bool):
            raise BadPair("waits")
        self.marks = marks
        self.mark = mark
        self.way = way
        self.waits = waits

    def sends(self):
        """The sender that has sent its letter, and waits."""
        if self.waits:
            raise BadPair("waits")
        return Sender(self.marks, self.mark, self.way, True)

    def hears(self, mark):
        """The sender behind an answer with a mark."""
        if not is_within(mark, 0, self.marks - 1):
            raise BadNumber(mark)
        if not self.waits or mark != self.mark:
            return self
        return Sender(self.marks, (mark + 1) % self.marks, self.way)

    def turns(self):
        """The sender behind a time-out: it waits on the spare way."""
        if not self.waits:
            raise BadPair("waits")
        if self.way == "spare":
            raise BadPair("way")
        return Sender(self.marks, self.mark, "spare", True)

    def __eq__(self, other):
        return isinstance(other, Sender) and self.marks == other.marks and self.mark == other.mark and (
            self.way == other.way) and self.waits == other.waits

    def __str__(self):
        if self.waits:
            return f"{self.mark} of {self.marks} {self.way} waits"
        return f"{self.mark} of {self.marks} {self.way}"


class Receiver:
    """Who takes letters, and hands out those with the wanted mark. It never changes."""

    def __init__(self, marks=2, wanted=0):
        check_marks(marks)
        if not is_within(wanted, 0, marks - 1):
            raise BadPair("wanted")
        self.marks = marks
        self.wanted = wanted

    def takes(self, mark):
        """The receiver behind a letter with a mark, and whether this letter is handed out."""
        if not is_within(mark, 0, self.marks - 1):
            raise BadNumber(mark)
        if mark != self.wanted:
            return self, False
        return Receiver(self.marks, (mark + 1) % self.marks), True

    def __eq__(self, other):
        return isinstance(other, Receiver) and self.marks == other.marks and self.wanted == other.wanted
