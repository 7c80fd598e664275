"""The longest frames of letters of each length, by the best way through a frame rule."""

from layerpost.checks import is_letter, is_within
from layerpost.errors import BadLetter, BadNumber, BadRule, TooMany
from layerpost.frames import FrameRule
from layerpost.growths import Growth
from layerpost.lengths import are_lasting, greatest_lengths
from layerpost.series import parted
from layerpost.states import moves_of, state_of

MOST_TOLD = 400
MOST_GAINS = 60
# Told values and gains that are looked for: few of them first, as few do for most rules.
PROBES = ((24, 12), (400, 60))


class Longest:
    """How many signs at most are sent behind each state: a dict from the states to Growths."""

    def __init__(self, rows):
        self.rows = rows

    def __eq__(self, other):
        return isinstance(other, Longest) and self.rows == other.rows


def growth_of(values, many_told, many_gains):
    """The Growth of at most so many told values and gains with these values, None if there is none."""
    told, gains = parted(values, many_told)
    for many in range(1, many_gains + 1):
        if gains[many:] == gains[:len(gains) - many]:
            return Growth(told, gains[:many])
    return None


def rows_within(moves, many_told, many_gains):
    """A dict from each state to its Growth, None if one has more told values or gains than so many."""
    # Behind the told values two rounds of the most gains, and one more, leave one Growth at most.
    lengths = greatest_lengths(moves, many_told + 3 * many_gains)
    rows = {}
    for state in moves:
        rows[state] = growth_of(lengths[state], many_told, many_gains)
        if rows[state] is None:
            return None
    # What fits the first lengths can still fail far off.
    return rows if are_lasting(moves, rows) else None


def longest_paper(rule):
    """How many signs at most are sent for so many signs of a letter, behind each state."""
    if not isinstance(rule, FrameRule):
        raise BadRule("rule")
    moves = moves_of(rule.flag, rule.pairs)
    for many_told, many_gains in PROBES:
        rows = rows_within(moves, many_told, many_gains)
        if rows is not None:
            return Longest(rows)
    raise TooMany("lengths", MOST_TOLD)


def check_begin(rule, begin):
    """Raises if this is no rule, or no letter to begin with."""
    if not isinstance(rule, FrameRule):
        raise BadRule("rule")
    if not is_letter(begin):
        raise BadLetter(begin)


def longest_frames(rule, begin=""):
    """For each n the signs of the longest frame of a letter that is begin and n signs more."""
    check_begin(rule, begin)
    paper = longest_paper(rule)
    body = rule.body(begin)
    growth = paper.rows[state_of(body, rule.flag, rule.pairs)]
    return growth + Growth.constant(len(body) + len(rule.flag))


def longest_letter(rule, length, begin=""):
    """A letter that is begin and so many signs more, whose frame is as long as can be."""
    check_begin(rule, begin)
    if not is_within(length, 0, 200 - len(begin)):
        raise BadNumber(length)
    rows = longest_paper(rule).rows
    moves = moves_of(rule.flag, rule.pairs)
    state = state_of(rule.body(begin), rule.flag, rule.pairs)
    letter = begin
    for rest in range(length, 0, -1):
        after, sent = moves[state][0]
        sign = "0"
        if len(sent) + rows[after](rest - 1) < rows[state](rest):
            after, sent = moves[state][1]
            sign = "1"
        letter = letter + sign
        state = after
    return letter


def most_cells(rule, size, begin=""):
    """For each n the most cells that a letter needs that is begin and n signs more."""
    if not isinstance(rule, FrameRule):
        raise BadRule("rule")
    if not is_within(size, 1, 32):
        raise BadNumber(size)
    return Growth.steps(size).after(longest_frames(rule, begin))
