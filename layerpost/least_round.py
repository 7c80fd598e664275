"""Wishes for waits, and the least rounds that keep them.

A wish is a triple of a flow, a number of own slots, and the most ticks that they
may take, from whatever place.
"""

from layerpost.checks import is_name, is_within
from layerpost.errors import BadNumber, BadRound, TooMany
from layerpost.rounds import Round
from layerpost.waits import waits

MOST_FLOWS = 3
MOST_LENGTH = 8


def is_wish(value):
    """Whether any value is a wish."""
    if not isinstance(value, tuple) or len(value) != 3:
        return False
    flow, many, most = value
    return is_name(flow) and is_within(many, 1, 100) and is_within(most, 1, 10000)


def check_wishes(wishes):
    """Raises for the first of any values that is no wish."""
    for at, wish in enumerate(wishes):
        if not is_wish(wish):
            raise BadRound(at)


def keeps_all(ring, wishes):
    """Whether a round keeps all these wishes."""
    return all([flow in ring and waits(ring, flow)(many) <= most for flow, many, most in wishes])


def keeps(ring, *wishes):
    """Whether a round keeps all wishes."""
    if not isinstance(ring, Round):
        raise BadRound("round")
    check_wishes(wishes)
    return keeps_all(ring, wishes)


def round_of(flow, places, length):
    """The round of this length in which just these places are a flow's own."""
    slots = [flow if at in places else None for at in range(length)]
    return Round(*slots)


def least_places(flow, wishes, length):
    """The tuples of places of a round of this length, none of which can be left out, that keep a flow's wishes."""
    wanted = [wish for wish in wishes if wish[0] == flow]
    found = []
    for mask in range(1, 1 << length):
        places = tuple([at for at in range(length) if (mask >> at) & 1])
        # A place more never breaks a wish, and the masks of fewer places of these come first.
        if any([all([at in places for at in fewer]) for fewer in found]):
            continue
        if keeps_all(round_of(flow, places, length), wanted):
            found.append(places)
    return found


def rows_of_slots(flows, wishes, length):
    """All rows of so many slots in which each flow has places as told above, the others being idle (empty names)."""
    rows = [[""] * length]
    for flow in flows:
        longer = []
        for places in least_places(flow, wishes, length):
            for row in rows:
                if all([row[at] == "" for at in places]):
                    longer.append([flow if at in places else row[at] for at in range(length)])
        rows = longer
    return rows


def least_round(*wishes, longest=6):
    """The shortest round that keeps all wishes, of several the first one; None if none of so many slots does."""
    check_wishes(wishes)
    flows = sorted(set([flow for flow, _, _ in wishes]))
    if len(flows) > MOST_FLOWS:
        raise TooMany("flows", MOST_FLOWS)
    if not is_within(longest, 1, MOST_LENGTH):
        raise BadNumber(longest)
    for length in range(1, longest + 1):
        rows = rows_of_slots(flows, wishes, length)
        if rows:
            # In the first round no slot can be made idle, so rows with least places do.
            slots = [None if name == "" else name for name in min(rows)]
            return Round(*slots)
    return None


def spare_slots(ring, *wishes):
    """The ascending tuple of the places that can be made idle, each one alone, with all wishes still kept."""
    if not keeps(ring, *wishes):
        return ()
    own = [place for place, slot in enumerate(ring.slots) if slot is not None]
    return tuple([place for place in own if keeps_all(ring.with_slot(place, None), wishes)])
