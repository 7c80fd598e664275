"""Waits: how many ticks go by until so many own slots of a flow in a round have ended."""

from layerpost.checks import is_within
from layerpost.errors import BadNumber, BadRound, NoFlow
from layerpost.growths import Growth
from layerpost.rounds import Round

MOST_SLOTS = 10 ** 30


def own_places(ring, flow):
    """The ascending tuple of the places of a flow's slots; an error if it has none."""
    if not isinstance(ring, Round):
        raise BadRound("round")
    own = ring.own(flow)
    if not own:
        raise NoFlow(flow)
    return own


def slots_ahead(own, place):
    """How many own slots stand in a round ahead of a place."""
    return len([at for at in own if at < place])


def wait_behind(own, length, place, many):
    """The wait from a place for at least one own slot, in a round of this length."""
    rounds, at = divmod(slots_ahead(own, place) + many - 1, len(own))
    return rounds * length + own[at] - place + 1


def greatest_wait(own, length, many):
    """The greatest wait for at least one own slot, over all places of a round of this length."""
    return max([wait_behind(own, length, place, many) for place in range(length)])


def wait_from(ring, flow, place, many):
    """The ticks from a tick at this place to the end of the many-th own slot from then on."""
    own = own_places(ring, flow)
    if not is_within(place, 0, len(ring) - 1):
        raise BadNumber(place)
    if not is_within(many, 0, MOST_SLOTS):
        raise BadNumber(many)
    return wait_behind(own, len(ring), place, many) if many > 0 else 0


def waits(ring, flow):
    """The growth W: for each number of own slots the greatest wait for them."""
    own = own_places(ring, flow)
    most = [greatest_wait(own, len(ring), many) for many in range(1, 2 * len(own) + 1)]
    # From one slot on each wait is one round longer than that for a round of own slots less.
    gains = [most[at] - most[at - 1] for at in range(len(own), len(most))]
    return Growth([0, *most[:len(own)]], gains)


def worst_place(ring, flow, many):
    """The least place from which the wait for at least one own slot is the greatest."""
    own = own_places(ring, flow)
    if not is_within(many, 1, MOST_SLOTS):
        raise BadNumber(many)
    lengths = [wait_behind(own, len(ring), place, many) for place in range(len(ring))]
    return lengths.index(max(lengths))
