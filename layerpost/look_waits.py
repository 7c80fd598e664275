"""Looks at growths of waits, and at places from which a wait is the greatest."""

from layerpost.checks import is_within
from layerpost.growths import Growth
from layerpost.waits import wait_from, waits, worst_place


def shows_waits(ring, flow, value):
    """Whether any value is the growth W of a flow in a round."""
    told = waits(ring, flow)
    return isinstance(value, Growth) and value == told


def shows_place(ring, flow, many, value):
    """Whether any value is a place from which the wait for so many own slots is the greatest."""
    worst = worst_place(ring, flow, many)
    if not is_within(value, 0, len(ring) - 1):
        return False
    return wait_from(ring, flow, value, many) == wait_from(ring, flow, worst, many)
