"""Pairs of a sender and a receiver: what can happen between them, and whether each letter comes once."""

from layerpost.checks import is_integer, is_within
from layerpost.errors import BadPair, BadRun, BadText, TooMany
from layerpost.marks import MOST_MARKS, check_marks
from layerpost.stands import event_rows, first_of, is_stuck
from layerpost.verdicts import Verdict
from layerpost.walks import steps_to
from layerpost.words import words_of

MOST_STANDS = 4000
TIMEOUTS = ("late", "early", "never")
CHANGES = ("stay", "swing")
# The words that can stand at each place of the text of a pair.
WORDS = (("pair",), ("1", "2", "3", "4", "5", "6"), ("late", "early", "never"), ("stay", "swing"), ("order", "any"),
         ("lossy", "sure"), ("0", "1"), ("1", "2"))


def is_word_of(value, words):
    """Whether any value is one of these words."""
    return isinstance(value, str) and value in words


class Pair:
    """What can happen between a sender and a receiver. It never changes."""

    def __init__(self, marks=2, timeouts="late", change="stay", order=True, losses=False, falls=1, room=1):
        check_marks(marks)
        if not is_word_of(timeouts, TIMEOUTS):
            raise BadPair("timeouts")
        if not is_word_of(change, CHANGES):
            raise BadPair("change")
        if not isinstance(order, bool):
            raise BadPair("order")
        if not isinstance(losses, bool):
            raise BadPair("losses")
        if not is_within(falls, 0, 1):
            raise BadPair("falls")
        if not is_within(room, 1, 2):
            raise BadPair("room")
        self.marks = marks
        self.timeouts = timeouts
        self.change = change
        self.order = order
        self.losses = losses
        self.falls = falls
        self.room = room

    def parts(self):
        """A new dict of all parts."""
        return {"marks": self.marks, "timeouts": self.timeouts, "change": self.change, "order": self.order,
                "losses": self.losses, "falls": self.falls, "room": self.room}

    def but(self, **parts):
        """The pair with other parts, told by name."""
        told = self.parts()
        for name in parts:
            if name not in told:
                raise BadPair(name)
            told[name] = parts[name]
        return Pair(**told)

    def __eq__(self, other):
        return isinstance(other, Pair) and self.parts() == other.parts()

    def __str__(self):
        return " ".join(["pair", str(self.marks), self.timeouts, self.change, "order" if self.order else "any",
                         "lossy" if self.losses else "sure", str(self.falls), str(self.room)])

    @classmethod
    def read(cls, text):
        """The pair with this text."""
        words = words_of(text)
        for at, word in enumerate(words):
            if at >= len(WORDS) or word not in WORDS[at]:
                raise BadText(0, at)
        if len(words) < len(WORDS):
            raise BadText(0, len(words))
        _, marks, timeouts, change, order, losses, falls, room = words
        return cls(int(marks), timeouts, change, order == "order", losses == "lossy", int(falls), int(room))


class Once(Verdict):
    """A pair does not break: all its stands."""

    def __init__(self, stands):
        self.stands = stands

    def __bool__(self):
        return True

    def __eq__(self, other):
        return isinstance(other, Once) and self.stands == other.stands


class Broken(Verdict):
    """A pair breaks: how, and behind which events."""

    def __init__(self, word, run):
        self.word = word
        self.run = run

    def __bool__(self):
        return False

    def __eq__(self, other):
        return isinstance(other, Broken) and self.word == other.word and self.run == other.run


def check_pair(pair):
    """Raises if any value is no pair."""
    if not isinstance(pair, Pair):
        raise BadPair("pair")


def events(pair, stand):
    """All events that can come at a stand, in their order, each with its outcome."""
    check_pair(pair)
    yield from event_rows(pair, stand)


def first_stand(pair):
    """The stand at which a pair begins."""
    check_pair(pair)
    return first_of(pair)


def outcome_of(pair, stand, event):
    """The outcome of any value as an event, None if it cannot come."""
    # Python takes True for 1, so the kinds are looked at first.
    if not isinstance(event, tuple) or not all([isinstance(part, str) or is_integer(part) for part in event]):
        return None
    for told, outcome in event_rows(pair, stand):
        if told == event:
            return outcome
    return None


def played(pair, run):
    """The list of the stands behind the events of a run, the word for a last event that breaks the pair."""
    check_pair(pair)
    if not isinstance(run, (list, tuple)):
        raise BadRun("run")
    stand = first_of(pair)
    outcomes = []
    for at, event in enumerate(run):
        stand = outcome_of(pair, stand, event)
        if stand is None or isinstance(stand, str) and at < len(run) - 1:
            raise BadRun(at)
        outcomes.append(stand)
    return outcomes


def run_to(found, end):
    """The tuple of the events on the way to a stand."""
    _, run = steps_to(found, end)
    return tuple(run)


def walked(pair):
    """A dict of all stands as they are met, to each the one ahead and the event; and the Broken, if the pair breaks."""
    begin = first_of(pair)
    found = {begin: None}
    order = [begin]
    at = 0
    while at < len(order):
        stand = order[at]
        at += 1
        for event, outcome in event_rows(pair, stand):
            if isinstance(outcome, str):
                return found, Broken(outcome, (*run_to(found, stand), event))
            if outcome in found:
                continue
            if len(found) == MOST_STANDS:
                raise TooMany("stands", MOST_STANDS)
            found[outcome] = (stand, event)
            order.append(outcome)
            if is_stuck(pair, outcome):
                return found, Broken("stuck", run_to(found, outcome))
    return found, None


def once(pair):
    """Whether each letter comes once, in order, and letters always go on: an Once or a Broken."""
    check_pair(pair)
    found, broken = walked(pair)
    return Once(tuple(found)) if broken is None else broken


def least_marks(pair):
    """The least number of marks with which a pair does not break, None if there is none."""
    check_pair(pair)
    for marks in range(1, MOST_MARKS + 1):
        if once(pair.but(marks=marks)):
            return marks
    return None
