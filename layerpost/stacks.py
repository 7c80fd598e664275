"""Stacks: all layers that a letter of a flow meets on one lane, and its greatest delay there."""

from layerpost.cells import MOST_SIZE
from layerpost.checks import is_within
from layerpost.errors import BadNumber, BadStack
from layerpost.frames import FrameRule
from layerpost.hops import hop_growth
from layerpost.longest import most_cells
from layerpost.losses import LossRule
from layerpost.nets import MOST_TRAVEL
from layerpost.plans import Plan
from layerpost.repair import repaired
from layerpost.rounds import Round

FARTHEST = 10 ** 30
MOST_LANES = 1000


def check_layers(frames, size, plan, rule):
    """Raises with the name of the first one of any values that is no such part of a stack."""
    if not isinstance(frames, FrameRule):
        raise BadStack("frames")
    if not is_within(size, 1, MOST_SIZE):
        raise BadStack("size")
    if not isinstance(plan, Plan):
        raise BadStack("plan")
    if not isinstance(rule, LossRule) or not rule.is_calm:
        raise BadStack("rule")


def check_lane(ring, flow, travel):
    """Raises with the name of the first one of any values that is no such part of a stack."""
    if not isinstance(ring, Round):
        raise BadStack("ring")
    if flow not in ring:
        raise BadStack("flow")
    if not is_within(travel, 0, MOST_TRAVEL):
        raise BadStack("travel")


class Stack:
    """What a letter of a flow meets on one lane. It never changes."""

    def __init__(self, frames, size, plan, rule, ring, flow, travel=0):
        check_layers(frames, size, plan, rule)
        check_lane(ring, flow, travel)
        if not repaired(plan, rule):
            raise BadStack("line")
        self.frames = frames
        self.size = size
        self.plan = plan
        self.rule = rule
        self.ring = ring
        self.flow = flow
        self.travel = travel
        # The mark is one sign more than the content.
        cells = most_cells(frames, size).shifted(1)
        self.hop = hop_growth(plan, rule, ring, flow, travel).after(cells)

    def delay_of(self, length, lanes=1):
        """The greatest delay of a content of this length over so many lanes."""
        if not is_within(length, 0, FARTHEST):
            raise BadNumber(length)
        if not is_within(lanes, 1, MOST_LANES):
            raise BadNumber(lanes)
        hop = self.hop
        return lanes * hop(length)

    def but(self, **parts):
        """The stack with some parts otherwise."""
        told = {"frames": self.frames, "size": self.size, "plan": self.plan, "rule": self.rule, "ring": self.ring,
                "flow": self.flow, "travel": self.travel}
        for name in parts:
            if name not in told:
                raise BadStack(name)
            told[name] = parts[name]
        return Stack(**told)

    def __eq__(self, other):
        return isinstance(other, Stack) and self.frames == other.frames and self.size == other.size and (
            self.plan == other.plan) and self.rule == other.rule and self.ring == other.ring and (
            self.flow == other.flow) and self.travel == other.travel
