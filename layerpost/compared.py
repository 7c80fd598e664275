"""Stacks compared: whether one is never later than another one, at no length."""

from math import lcm

from layerpost.errors import BadStack
from layerpost.series import common_length, gaps_of, last_number_above, lead_of
from layerpost.stacks import Stack
from layerpost.verdicts import Verdict


class Better(Verdict):
    """One is never later: behind begin the gains of both come round together, every so many lengths."""

    def __init__(self, begin, every):
        self.begin = begin
        self.every = every

    def __bool__(self):
        return True

    def __eq__(self, other):
        return isinstance(other, Better) and self.begin == other.begin and self.every == other.every


class Worse(Verdict):
    """One is later at this length."""

    def __init__(self, length):
        self.length = length

    def __bool__(self):
        return False

    def __eq__(self, other):
        return isinstance(other, Worse) and self.length == other.length


def check_stacks(one, other):
    """Raises if any values are no two stacks."""
    if not isinstance(one, Stack):
        raise BadStack("one")
    if not isinstance(other, Stack):
        raise BadStack("other")


def better(one, other):
    """Whether one stack is never later than another one: a Better, or a Worse of the least length at which it is."""
    check_stacks(one, other)
    length = one.hop.first_above(other.hop)
    if length is not None:
        return Worse(length)
    return Better(max(len(one.hop.told), len(other.hop.told)), lcm(len(one.hop.gains), len(other.hop.gains)))


def from_on(one, other):
    """The least length from which on one stack is never later than another one, None if there is none."""
    check_stacks(one, other)
    lead = lead_of(one.hop, other.hop)
    if lead > 0:
        return None
    if lead < 0:
        return last_number_above(one.hop, other.hop) + 1
    # Both rise alike, so one round of all gains tells all that is far off.
    gaps = gaps_of(one.hop, other.hop)
    begin = len(gaps) - common_length(one.hop, other.hop)
    if max(gaps[begin:]) > 0:
        return None
    return max([at + 1 for at, gap in enumerate(gaps) if gap > 0], default=0)


def order(one, other):
    """How two stacks stand: alike, better or worse, as both, one, the other one are never later; otherwise apart."""
    check_stacks(one, other)
    is_one = one.hop.at_most(other.hop)
    is_other = other.hop.at_most(one.hop)
    if is_one and is_other:
        return "alike"
    if is_one:
        return "better"
    return "worse" if is_other else "apart"
