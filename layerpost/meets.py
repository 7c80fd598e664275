"""Runs in which letters meet the greatest delay of each lane, lane by lane."""

from layerpost.errors import TooMany
from layerpost.follow import copy_ticks
from layerpost.lines import slots_until
from layerpost.machines import MOST_SLOTS
from layerpost.repair import phase_delays, slots_needed, worst_losses
from layerpost.runs import MOST_TICK, Fall, Run
from layerpost.waits import worst_place


def latest_rows(plan, rule, cells):
    """The rows behind which so many cells are known last: triples of the begin phase, the own slot, its phase."""
    delays = phase_delays(plan, rule)
    needed = slots_needed(plan, rule)
    most = needed(cells)
    rows = []
    for begin in range(len(plan)):
        slot = 0
        left = cells
        while left > 0:
            phase = (begin + slot) % len(plan)
            if delays[phase] is not None:
                left -= 1
                if slot + 1 + delays[phase] == most:
                    rows.append((begin, slot, phase))
            slot += 1
    return rows


class Hardship:
    """How a lane has to stand when so many cells come, so that they take as long as can be.

    place is that of the round, phase that of the next own slot; ahead is how many
    own slots from then on until losses begin, less than 0 if they begin earlier.
    """

    def __init__(self, lane, flow, cells):
        self.owned = lane.ring.own(flow)
        self.length = len(lane.ring)
        self.plan = lane.plan
        needed = slots_needed(lane.plan, lane.rule)
        self.place = worst_place(lane.ring, flow, needed(cells))
        choices = []
        for begin, slot, phase in latest_rows(lane.plan, lane.rule, cells):
            worst = worst_losses(lane.plan, lane.rule, phase)
            losses = worst.losses.rstrip(".")
            choices.append((slot + len(losses), slot - len(worst.before), begin, worst.before + losses))
        # The fewer own slots are told, the sooner is there room for them.
        _, self.ahead, self.phase, self.losses = min(choices)

    def least_tick(self):
        """The least tick at which the cells can come: as many own slots as needed are ahead of it."""
        tick = 0
        while slots_until(self.owned, self.length, (self.place - tick) % self.length, tick) + self.ahead < 0:
            tick += 1
        return tick

    def place_at(self, ready):
        """The place of the round at the tick 0, if cells come at a tick."""
        return (self.place - ready) % self.length

    def line_at(self, ready):
        """The phase and the losses of the line, if cells come at a tick."""
        first = slots_until(self.owned, self.length, self.place_at(ready), ready)
        phase = (self.phase - first) % len(self.plan)
        if self.losses == "":
            return phase, ""
        many = first + self.ahead
        if many + len(self.losses) > MOST_SLOTS:
            raise TooMany("slots", MOST_SLOTS)
        return phase, "." * many + self.losses


class Meeting:
    """What a letter meets from its taking up on: the hardships, each with the lane and with the ticks until then."""

    def __init__(self, first):
        self.main = first
        self.flow = first.flow.name
        self.rows = []
        self.offset = 0

    def wait(self, ticks):
        """So many ticks go by."""
        self.offset = self.offset + ticks

    def go_along(self, legs, cells, is_forth):
        """So many cells go along all lanes of a way, or back along them."""
        house = legs.houses[0] if is_forth else legs.houses[-1]
        known = []
        for link, growth in legs.forth if is_forth else legs.back:
            lane = link.lane_from(house)
            alike = [hardship for told, hardship in known if told == lane]
            hardship = alike[0] if alike else Hardship(lane, self.flow, cells)
            known.append((lane, hardship))
            self.rows.append((self.offset, link.name, house, hardship))
            self.offset = self.offset + growth(cells)
            house = link.far_end(house)

    def run_at(self, taken):
        """The run without contents in which all is met by a letter that is taken up at a tick."""
        places, phases, losses = {}, {}, {}
        for offset, link, house, hardship in self.rows:
            places[(link, house)] = hardship.place_at(taken + offset)
            phase, told = hardship.line_at(taken + offset)
            phases[(link, house, self.flow)] = phase
            losses[(link, house, self.flow)] = told
        return Run(self.main.net, places, phases, losses)

    def ended_ahead(self, taken):
        """The tick at which the empty letter ahead, of the mark 0, has ended, if the letter is taken up at a tick."""
        return copy_ticks(self.run_at(taken), self.flow, self.main.houses, 0, "0", "")[1]

    def tick_by_leaps(self, least):
        """A tick later than the letter ahead has ended, found in few steps."""
        taken = least
        ended = self.ended_ahead(taken)
        while ended >= taken:
            # A later taking up begins all lanes elsewhere, so the letter ahead is looked at again.
            taken = ended + 1
            ended = self.ended_ahead(taken)
        return taken

    def tick_by_steps(self, least):
        """The first tick later than the letter ahead has ended."""
        taken = least
        while self.ended_ahead(taken) >= taken:
            taken += 1
        return taken

    def first_tick(self, mark):
        """A tick at which the letter can be taken up: for the mark 1 later than the empty one ahead has ended."""
        least = max([mark, *[hardship.least_tick() - offset for offset, _, _, hardship in self.rows]])
        if mark == 0:
            return least
        try:
            taken = self.tick_by_leaps(least)
        except TooMany:
            # An earlier tick, which leaps can miss, can leave room enough for the losses.
            taken = self.tick_by_steps(least)
        if taken > MOST_TICK:
            raise TooMany("ticks", MOST_TICK)
        return taken

    def falling(self, run, tick):
        """The run in which the first link of the first way falls at a tick."""
        return run.with_fall(Fall(tick, self.main.forth[0][0].name))
