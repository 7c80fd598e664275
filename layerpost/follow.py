"""One flow of a run, followed lane by lane; no ticks are played."""

from layerpost.cells import cells_of
from layerpost.lines import slot_behind, slots_until
from layerpost.tables import leads
from layerpost.waits import wait_behind


class Journey:
    """How a letter went: its mark, its way at the end, and the ticks at which it was taken up, was there, ended."""

    def __init__(self, mark, way, taken, there, ended):
        self.mark = mark
        self.way = way
        self.taken = taken
        self.there = there
        self.ended = ended

    def __eq__(self, other):
        return isinstance(other, Journey) and self.mark == other.mark and self.way == other.way and (
            self.taken == other.taken) and self.there == other.there and self.ended == other.ended


def passage(run, link, house, flow, ready, cells):
    """The tick at which cells that are ready at a house are there at the other end of a link, None if never."""
    lane = link.lane_from(house)
    own = lane.ring.own(flow)
    place = run.place_of((link.name, house))
    line = (link.name, house, flow)
    first = slots_until(own, len(lane.ring), place, ready)
    slot = slot_behind(lane.plan, run.phase_of(line), run.losses_of(line), first, cells)
    if slot is None:
        return None
    return wait_behind(own, len(lane.ring), place, slot + 1) + lane.travel


def is_fallen(fall, link, tick):
    """Whether what would be there over a link at a tick is lost by a fall."""
    return fall is not None and fall.tick <= tick and fall.name in (link.name, link.one, link.other)


def end_of_way(run, flow, houses, ready, cells):
    """The tick at which cells that are ready at the first of these houses are there at the last one, None if never."""
    here = ready
    for one, other in zip(houses, houses[1:]):
        link = run.net.between(one, other)
        if not link.lane_from(one).carries(flow):
            return None
        here = passage(run, link, one, flow, here, cells)
        if here is None or is_fallen(run.fall, link, here):
            return None
    return here


def cells_many(net, letter):
    """How many cells a letter needs."""
    return len(cells_of(net.rule.frame(letter), net.size))


def copy_ticks(run, flow, houses, ready, mark, content):
    """The ticks at which a copy is there at the end and its answer at the begin, None for what never comes.

    houses is None for a way that does not lead.
    """
    if houses is None:
        return None, None
    there = end_of_way(run, flow, houses, ready, cells_many(run.net, mark + content))
    if there is None:
        return None, None
    return there, end_of_way(run, flow, houses[::-1], there, cells_many(run.net, mark))


def houses_of(tables, flow, way):
    """The houses of a way, None if the tables do not lead it."""
    answer = leads(tables, flow, way)
    return answer.houses if answer else None


def first_tick(one, other):
    """The first one of two ticks, either of which may be None."""
    ticks = [tick for tick in (one, other) if tick is not None]
    return min(ticks, default=None)


def followed(run, tables, flow):
    """The list of the Journeys of a flow's letters, as they are taken up."""
    timeout = run.net.flow_named(flow).timeout
    way, mark, free = "first", 0, 0
    journeys = []
    for tick, content in run.contents_of(flow):
        taken = max(tick, free)
        there, ended = copy_ticks(run, flow, houses_of(tables, flow, way), taken, str(mark), content)
        elder = None
        if way == "first" and (ended is None or ended > taken + timeout):
            way, elder = "spare", ended
            other, answered = copy_ticks(run, flow, houses_of(tables, flow, way), taken + timeout, str(mark), content)
            there, ended = first_tick(there, other), first_tick(ended, answered)
        journeys.append(Journey(mark, way, taken, there, ended))
        # The answer to an elder copy could end a later sending.
        if ended is None or elder is not None:
            return journeys
        free, mark = ended, 1 - mark
    return journeys
