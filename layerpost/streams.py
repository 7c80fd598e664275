"""Lines in play: cells that wait, rows that are not known, slot by slot."""

from layerpost.checks import is_name, is_within
from layerpost.errors import BadLosses, BadName, BadNet, BadNumber, NoPhase
from layerpost.nets import Lane
from layerpost.unknown import is_in_reach, rows_behind

MOST_CELLS = 500


class Stream:
    """A line in play. It never changes.

    phase is that of the next own slot, losses are those from it on; queue tells for
    each thing whose cells wait how many of them do; rows and basis are as those of
    unknown rows; many is how many things have come.
    """

    def __init__(self, lane, flow, phase=0, losses=""):
        if not isinstance(lane, Lane):
            raise BadNet("lane")
        if not is_name(flow):
            raise BadName(flow)
        if not is_within(phase, 0, len(lane.plan) - 1):
            raise NoPhase(phase)
        if not lane.rule.lets(losses):
            raise BadLosses(losses)
        self.lane = lane
        self.flow = flow
        self.phase = phase
        self.losses = losses.rstrip(".")
        self.queue = ()
        self.rows = ()
        self.basis = ()
        self.many = 0

    def with_thing(self, cells):
        """The stream with one thing more, of any number of cells."""
        after = Stream(self.lane, self.flow, self.phase)
        after.losses = self.losses
        after.queue = (*self.queue, (self.many, cells))
        after.rows = self.rows
        after.basis = self.basis
        after.many = self.many + 1
        return after

    def taking(self, many):
        """The stream with so many cells more that wait, the cells of one thing."""
        if not is_within(many, 1, MOST_CELLS):
            raise BadNumber(many)
        return self.with_thing(many)

    def things(self):
        """The ascending list of the things of which a cell waits or is not known."""
        waiting = [thing for thing, _ in self.queue]
        return sorted(set([*waiting, *[thing for _, thing in self.rows if thing is not None]]))

    def behind(self):
        """The stream behind one own slot, and the tuple of the things that are known with it."""
        plan = self.lane.plan
        after = Stream(self.lane, self.flow, (self.phase + 1) % len(plan))
        after.losses = self.losses[1:]
        after.queue = self.queue
        after.many = self.many
        owner = None
        if self.queue and not plan[self.phase].mute:
            owner, cells = self.queue[0]
            after.queue = self.queue[1:] if cells == 1 else ((owner, cells - 1), *self.queue[1:])
        is_kept = not self.losses.startswith("x")
        after.rows, after.basis = rows_behind(plan, self.phase, self.rows, self.basis, is_kept, owner)
        left = after.things()
        return after, tuple([thing for thing in self.things() if thing not in left])

    @property
    def cell_count(self):
        """How many cells wait."""
        return sum([cells for _, cells in self.queue])

    @property
    def is_idle(self):
        """Whether no cell waits and none is unknown."""
        return not self.queue and all([thing is None for _, thing in self.rows])

    def is_quiet(self):
        """Whether only the phase is to be kept, as each cell that comes is known with its own slot."""
        return self.is_idle and self.losses == ""

    def shape(self):
        """What waits, what is unknown and what is known of it, whatever numbers things have."""
        ranks = self.things()
        queue = [(ranks.index(thing), cells) for thing, cells in self.queue]
        # How old a row is that no sum can tell any more plays no part.
        rows = [(age if is_in_reach(self.lane.plan, self.phase, age) else 0,
                 None if thing is None else ranks.index(thing)) for age, thing in self.rows]
        return queue, rows, self.basis

    def __eq__(self, other):
        return isinstance(other, Stream) and self.lane == other.lane and self.flow == other.flow and (
            self.phase == other.phase) and self.losses == other.losses and self.shape() == other.shape()
