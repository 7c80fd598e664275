"""The greatest delay of cells on one lane, from the tick at which they are ready to that at which they are there."""

from layerpost.checks import is_within
from layerpost.errors import BadNumber, BadRound, Clashing, Nothing
from layerpost.growths import Growth
from layerpost.nets import MOST_TRAVEL
from layerpost.repair import check_line, slots_needed
from layerpost.rounds import Round
from layerpost.waits import waits


def most_slots(plan, rule):
    """The growth of the own slots needed for so many cells."""
    try:
        return slots_needed(plan, rule)
    except Nothing:
        raise Clashing("rule")


def hop_growth(plan, rule, ring, flow, travel):
    """The growth G of a lane: for each number of cells the greatest number of ticks until they are there."""
    check_line(plan, rule)
    if not isinstance(ring, Round):
        raise BadRound("ring")
    wait = waits(ring, flow)
    if not is_within(travel, 0, MOST_TRAVEL):
        raise BadNumber(travel)
    # No cells need no travel.
    return wait.after(most_slots(plan, rule)) + Growth((0, travel))
