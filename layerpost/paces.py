"""How many events go by at most until the next letter of a pair is handed out."""

from layerpost.errors import BadPair
from layerpost.pairs import check_pair, run_to, walked
from layerpost.stands import event_rows, hands_out
from layerpost.verdicts import Verdict
from layerpost.walks import ring_among, without_rings


class Steady(Verdict):
    """The next letter always comes: at most so many events ahead of it, in all and from each stand on."""

    def __init__(self, most, heights):
        self.most = most
        self.heights = heights

    def __bool__(self):
        return True

    def __eq__(self, other):
        return isinstance(other, Steady) and self.most == other.most and self.heights == other.heights


class Endless(Verdict):
    """The next letter need never come: events that lead to a ring, and its own, which hand out nothing."""

    def __init__(self, begin, ring):
        self.begin = begin
        self.ring = ring

    def __bool__(self):
        return False

    def __eq__(self, other):
        return isinstance(other, Endless) and self.begin == other.begin and self.ring == other.ring


def quiet_rows(pair, stand):
    """The events that hand out no letter, with the stands behind them; none breaks the pair."""
    return [(event, outcome) for event, outcome in event_rows(pair, stand) if not hands_out(stand, event)]


def ring_events(rows, ring):
    """The tuple of the events that lead from each of these stands to the next one, and from the last to the first."""
    run = []
    for at, stand in enumerate(ring):
        behind = ring[(at + 1) % len(ring)]
        run.append([event for event, outcome in rows[stand] if outcome == behind][0])
    return tuple(run)


def steady(pair):
    """Whether the next letter always comes, and how soon: a Steady or an Endless."""
    check_pair(pair)
    found, broken = walked(pair)
    if broken is not None:
        raise BadPair("breaks")
    rows = {stand: quiet_rows(pair, stand) for stand in found}
    after = {stand: [outcome for _, outcome in rows[stand]] for stand in rows}
    ring = ring_among(after)
    if ring is not None:
        return Endless(run_to(found, ring[0]), ring_events(rows, ring))
    heights = {}
    for stand in without_rings(after):
        heights[stand] = 1 + max([heights[outcome] for outcome in after[stand]], default=0)
    return Steady(max(list(heights.values())), heights)
