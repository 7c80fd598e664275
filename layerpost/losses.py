"""Loss rules: which slots of a line may be lost, told by machines of at most 12 places."""

from layerpost.checks import is_within
from layerpost.errors import BadLosses, BadRule, BadText, TooMany
from layerpost.machines import GONE, MOST_PLACES, is_losses, is_part, joined_places, least_places, place_behind
from layerpost.words import number_of, words_of

MOST_LOSSES = 8


def is_place_pair(value, many):
    """Whether any value is a pair of indexes of so many places, the second one perhaps None."""
    if not isinstance(value, (list, tuple)) or len(value) != 2:
        return False
    kept, lost = value
    return is_within(kept, 0, many - 1) and (lost is None or is_within(lost, 0, many - 1))


def few_places(places):
    """The least places of a machine; an error if these are too many."""
    least = least_places(places)
    if len(least) > MOST_PLACES:
        raise TooMany("places", MOST_PLACES)
    return least


def burst_places(most, apart):
    """The machine of bursts: a place for each lost slot in a row, one for each kept slot that must be behind."""
    many = most + apart
    behind = (most + 1) % many
    lost = [(behind, at + 1 if at < most else None) for at in range(1, most + 1)]
    kept = [((at + 1) % many, None) for at in range(most + 1, many)]
    return [(0, 1), *lost, *kept]


def place_words(places):
    """The words of the text of a loss rule."""
    words = ["losses"]
    for at, (kept, lost) in enumerate(places):
        if at > 0:
            words.append("/")
        words.extend([str(kept), "-" if lost is None else str(lost)])
    return words


def can_stand(words, at):
    """Whether this word can stand behind those ahead of it, in the text of a loss rule."""
    word = words[at]
    if at == 0:
        return word == "losses"
    row, place = divmod(at - 1, 3)
    if place == 2:
        return word == "/" and row < MOST_PLACES - 1
    if place == 1 and word == "-":
        return True
    index = number_of(word)
    return index is not None and index <= words.count("/")


class LossRule:
    """The base of all loss rules; it is not made itself. A rule never changes.

    Each class below keeps in places the least places of its machine.
    """

    def __eq__(self, other):
        return isinstance(other, LossRule) and self.places == other.places

    @property
    def is_calm(self):
        """Whether a kept slot at the first place leads to this place again."""
        return self.places[0][0] == 0

    def lets(self, losses):
        """Whether these losses are let."""
        if not is_losses(losses):
            raise BadLosses(losses)
        place = 0
        for sign in losses:
            place = place_behind(self.places, place, 0 if sign == "." else 1)
        return place != GONE

    def __and__(self, other):
        if not isinstance(other, LossRule):
            raise BadRule("other")
        places = few_places(joined_places(self.places, other.places, True))
        return MachineRule(*places)

    def __or__(self, other):
        if not isinstance(other, LossRule):
            raise BadRule("other")
        places = few_places(joined_places(self.places, other.places, False))
        return MachineRule(*places)

    def within(self, other):
        """Whether the other rule lets all that this one lets."""
        if not isinstance(other, LossRule):
            raise BadRule("other")
        return is_part(self.places, other.places)

    def __str__(self):
        return " ".join(place_words(self.places))

    @classmethod
    def read(cls, text):
        """The MachineRule with this text."""
        words = words_of(text)
        for at in range(len(words)):
            if not can_stand(words, at):
                raise BadText(0, at)
        if len(words) % 3 != 0:
            raise BadText(0, len(words))
        places = [(int(words[at]), None if words[at + 1] == "-" else int(words[at + 1]))
                  for at in range(1, len(words), 3)]
        rule = MachineRule(*places)
        if rule.places != tuple(places):
            raise BadText(0, 0)
        return rule


class MachineRule(LossRule):
    """A rule that is told by its places."""

    def __init__(self, *places):
        for at, pair in enumerate(places):
            if not is_place_pair(pair, len(places)):
                raise BadRule(at)
        if not 1 <= len(places) <= MOST_PLACES:
            raise BadRule("places")
        self.places = few_places(places)


class Total(LossRule):
    """At most so many losses in all."""

    def __init__(self, most):
        if not is_within(most, 0, MOST_LOSSES):
            raise BadRule("most")
        self.places = few_places([(at, at + 1 if at < most else None) for at in range(most + 1)])


class Burst(LossRule):
    """At most so many losses one behind the other, and so many kept slots behind them at least."""

    def __init__(self, most, apart):
        if not is_within(most, 1, MOST_LOSSES):
            raise BadRule("most")
        if not is_within(apart, 1, MOST_LOSSES):
            raise BadRule("apart")
        self.places = few_places(burst_places(most, apart))
