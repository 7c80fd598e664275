"""Frame rules: how a letter becomes a frame in which its end can be found."""

from layerpost.checks import is_letter, is_signs, is_signs_within
from layerpost.errors import BadFrame, BadLetter, BadRule, BadText, Clashing, TooMany
from layerpost.states import first_break, in_order, letter_of_body, moves_of, sent_behind
from layerpost.verdicts import Verdict
from layerpost.words import words_of

MOST_PAIRS = 4


def is_pair(value):
    """Whether any value is a tuple of a watch and a put."""
    if not isinstance(value, tuple) or len(value) != 2:
        return False
    return is_signs_within(value[0], 1, 8) and is_signs_within(value[1], 1, 1)


def can_stand(words, at):
    """Whether this word can stand behind those ahead of it, in the text of a frame rule."""
    word = words[at]
    if at == 0:
        return is_signs_within(word, 2, 8)
    if at == 1:
        return word == ":"
    pair, place = divmod(at - 2, 3)
    if place == 0:
        return is_signs_within(word, 1, 8) and pair < MOST_PAIRS and (pair == 0 or words[at - 3] < word)
    if place == 1:
        return is_signs_within(word, 1, 1)
    return word == ","


def rule_words(flag, pairs):
    """The words of the text of a frame rule."""
    words = [flag, ":"]
    for at, (watch, put) in enumerate(pairs):
        if at > 0:
            words.append(",")
        words.extend([watch, put])
    return words


class FrameRule:
    """How letters become frames: a flag, and pairs of a watch and a put. It never changes."""

    def __init__(self, flag, *pairs):
        if not is_signs_within(flag, 2, 8):
            raise BadRule("flag")
        for at, pair in enumerate(pairs):
            if not is_pair(pair):
                raise BadRule(at)
        if len(set([watch for watch, _ in pairs])) < len(pairs):
            raise BadRule("watch")
        if len(pairs) > MOST_PAIRS:
            raise TooMany("watches", MOST_PAIRS)
        self.flag = flag
        self.pairs = tuple(sorted(pairs))

    @staticmethod
    def simple(watch, put):
        """The rule with this one pair, and the flag that is watch and the other sign."""
        if not is_signs_within(watch, 1, 7):
            raise BadRule("watch")
        if not is_signs_within(put, 1, 1):
            raise BadRule("put")
        return FrameRule(watch + ("1" if put == "0" else "0"), (watch, put))

    def body(self, letter):
        """The signs of a letter, and those that are put in."""
        if not is_letter(letter):
            raise BadLetter(letter)
        signs = ""
        for sign in letter:
            sent = sent_behind(signs[-8:], sign, self.pairs)
            if sent is None:
                raise Clashing("puts")
            signs = signs + sent
        return signs

    def frame(self, letter):
        """The body of a letter and the flag behind it."""
        return self.body(letter) + self.flag

    def puts(self, letter):
        """How many signs are put into a letter."""
        return len(self.body(letter)) - len(letter)

    def letter_of(self, frame):
        """The letter whose frame this is."""
        if not is_signs(frame):
            raise BadFrame("signs")
        end = frame.find(self.flag)
        if end < 0 or end + len(self.flag) < len(frame):
            raise BadFrame("flag")
        letter = letter_of_body(frame[:end], self.pairs)
        if not is_letter(letter):
            raise BadFrame("body")
        return letter

    def all_states(self):
        """The tuple of the states that bodies can end in."""
        return in_order(list(moves_of(self.flag, self.pairs)))

    def next_state(self, state, sign):
        """The state behind a state and the next sign of a letter, and how many signs are sent."""
        moves = moves_of(self.flag, self.pairs)
        if not isinstance(state, str) or state not in moves:
            raise BadFrame("state")
        if not is_signs_within(sign, 1, 1):
            raise BadLetter(sign)
        after, sent = moves[state][int(sign)]
        return after, len(sent)

    def __eq__(self, other):
        return isinstance(other, FrameRule) and self.flag == other.flag and self.pairs == other.pairs

    def __str__(self):
        return " ".join(rule_words(self.flag, self.pairs))

    @classmethod
    def read(cls, text):
        """The rule with this text."""
        words = words_of(text)
        for at in range(len(words)):
            if not can_stand(words, at):
                raise BadText(0, at)
        if len(words) == 1 or len(words) > 2 and len(words) % 3 != 1:
            raise BadText(0, len(words))
        pairs = [(words[at], words[at + 1]) for at in range(2, len(words), 3)]
        return cls(words[0], *pairs)


class Right(Verdict):
    """A rule is right: its states."""

    def __init__(self, states):
        self.states = states

    def __bool__(self):
        return True

    def __eq__(self, other):
        return isinstance(other, Right) and self.states == other.states


class Wrong(Verdict):
    """A rule is wrong: a letter whose puts have no end, or whose frame has a flag ahead of its end."""

    def __init__(self, letter):
        self.letter = letter

    def __bool__(self):
        return False

    def __eq__(self, other):
        return isinstance(other, Wrong) and self.letter == other.letter


def rightness(rule):
    """Whether a rule is right, as a Right of its states or a Wrong of the first letter against it."""
    if not isinstance(rule, FrameRule):
        raise BadRule("rule")
    letter = first_break(rule.flag, rule.pairs)
    if letter is None:
        return Right(rule.all_states())
    return Wrong(letter)


def breaks(rule, letter):
    """Whether the puts in this letter have no end, or its frame has a flag ahead of its end."""
    try:
        frame = rule.frame(letter)
    except Clashing:
        return True
    return frame.find(rule.flag) + len(rule.flag) < len(frame)


def shows_right(rule, value):
    """Whether any value is the right Right, or a Wrong of any letter against the rule."""
    told = rightness(rule)
    if isinstance(value, Right):
        return isinstance(told, Right) and isinstance(value.states, tuple) and value.states == told.states
    return isinstance(value, Wrong) and is_letter(value.letter) and breaks(rule, value.letter)
