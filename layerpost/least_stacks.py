"""Wishes for stacks: the least share of a round that keeps them, the greatest length, and stacks at their prices."""

from layerpost.checks import is_name, is_within
from layerpost.compared import better
from layerpost.errors import BadName, BadNumber, BadStack
from layerpost.rounds import Round
from layerpost.stacks import FARTHEST, MOST_LANES, Stack


class Wish:
    """Letters to a length within a delay, over so many lanes. It never changes."""

    def __init__(self, length, delay, lanes=1):
        if not is_within(length, 0, FARTHEST):
            raise BadNumber(length)
        if not is_within(delay, 0, FARTHEST):
            raise BadNumber(delay)
        if not is_within(lanes, 1, MOST_LANES):
            raise BadNumber(lanes)
        self.length = length
        self.delay = delay
        self.lanes = lanes

    def keeps(self, stack):
        """Whether a stack is within the delay."""
        check_stack(stack)
        return stack.delay_of(self.length, self.lanes) <= self.delay

    def __eq__(self, other):
        return isinstance(other, Wish) and self.length == other.length and self.delay == other.delay and (
            self.lanes == other.lanes)


class Least:
    """The least number of own slots that keeps a wish, and the delays with 1, 2, .. of them."""

    def __init__(self, number, delays):
        self.number = number
        self.delays = delays

    def __eq__(self, other):
        return isinstance(other, Least) and self.number == other.number and self.delays == other.delays


def check_stack(stack):
    """Raises if any value is no stack."""
    if not isinstance(stack, Stack):
        raise BadStack("stack")


def check_slots(slots):
    """Raises if any value is no number of slots of a round."""
    if not is_within(slots, 1, Round.MOST):
        raise BadNumber(slots)


def spread(flow, own, slots):
    """The round of so many slots, so many of which, spread evenly, are a flow's, all others idle."""
    if not is_name(flow):
        raise BadName(flow)
    check_slots(slots)
    if not is_within(own, 1, slots):
        raise BadNumber(own)
    row = [None for _ in range(slots)]
    for at in range(own):
        row[at * slots // own] = flow
    return Round(*row)


def least_share(stack, wish, slots):
    """The Least number of own slots of so many with which a stack keeps a wish, None if all of them do not do."""
    check_stack(stack)
    if not isinstance(wish, Wish):
        raise BadStack("wish")
    check_slots(slots)
    delays = []
    for own in range(1, slots + 1):
        share = stack.but(ring=spread(stack.flow, own, slots))
        delays.append(share.delay_of(wish.length, wish.lanes))
        if delays[-1] <= wish.delay:
            return Least(own, tuple(delays))
    return None


def greatest_length(stack, delay, lanes=1):
    """The greatest length with at most this delay over so many lanes, None if the empty content is later."""
    check_stack(stack)
    if not is_within(delay, 0, FARTHEST):
        raise BadNumber(delay)
    if not is_within(lanes, 1, MOST_LANES):
        raise BadNumber(lanes)
    first = stack.hop.first_over(delay // lanes)
    return first - 1 if first > 0 else None


def is_priced(value):
    """Whether any value is a tuple of a price and a stack."""
    return isinstance(value, tuple) and len(value) == 2 and is_within(value[0], 0, FARTHEST) and (
        isinstance(value[1], Stack))


def is_beaten(priced, at, by):
    """Whether the one with an index is not needed beside another one."""
    price, stack = priced[at]
    less, other = priced[by]
    if less > price or not better(other, stack):
        return False
    return less < price or by < at or not better(stack, other)


def frontier(*priced):
    """The ascending tuple of the indexes of the stacks that none at most at their price makes needless."""
    for at, pair in enumerate(priced):
        if not is_priced(pair):
            raise BadStack(at)
    places = list(range(len(priced)))
    return tuple([at for at in places if not any([is_beaten(priced, at, by) for by in places if by != at])])
