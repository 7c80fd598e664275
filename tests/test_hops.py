"""The greatest delay on a lane: cell by cell, and met by losses from the worst place, just then."""

from layerpost.follow import passage
from layerpost.frames import FrameRule
from layerpost.growths import Growth
from layerpost.hops import hop_growth
from layerpost.losses import Burst, LossRule, MachineRule, Total
from layerpost.nets import Flow, Lane, Link, Net
from layerpost.plans import Phase, Plan
from layerpost.repair import phase_delays, slots_needed, worst_losses
from layerpost.rounds import Round
from layerpost.runs import Run
from layerpost.waits import waits, worst_place
from tests.helpers import Case, any_values, dealer

LINES = ((Plan.plain(), Total(0)), (Plan.copies(1), Burst(1, 1)), (Plan.copies(1, 2), Burst(2, 2)), (Plan.groups(2), Burst(1, 2)),
         (Plan.copies(4), Burst(1, 4)), (Plan.groups(3), Burst(1, 3)), (Plan(Phase((1, 2), (3,)), Phase((2,))), Burst(1, 3)),
         (Plan(Phase((1,)), Phase((1,), mute=True), Phase()), Burst(1, 3)))
RINGS = ("x", "x y y", "y x", "x x - y", "- x - - x x", "y " * 20 + "x x")
NEVER = ((Plan.plain(), Total(1)), (Plan.copies(1), Burst(2, 2)), (Plan.groups(2), Total(2)), (Plan.plain(), MachineRule((0, 0))))


def net_with(plan, rule, ring, travel):
    """A net of one link: the lane from a to b is as told."""
    link = Link("l", "a", "b", Lane(Round.read(ring), travel, plan, rule), Lane(Round("x")))
    return Net(["a", "b"], [link], [Flow("x", "a", "b", 4, 9)], FrameRule.simple("01", "0"), 4)


def walked_hop(plan, delays, slots, travel, place, phase, many):
    """The ticks for so many cells from a place and a phase, if each is known by its delay, slot by slot."""
    tick, slot, found, last = 0, 0, 0, 0
    ends = []
    while found < many or len(ends) < last:
        if slots[(place + tick) % len(slots)] == "x":
            delay = delays[(phase + slot) % len(plan)]
            slot += 1
            ends.append(tick + 1)
            if delay is not None and found < many:
                found += 1
                last = max(last, slot + delay)
        tick += 1
    return ends[last - 1] + travel


class HopTest(Case):

    def test_cell_by_cell(self):
        for plan, rule in LINES:
            delays = phase_delays(plan, rule)
            for text in RINGS:
                slots = Round.read(text).slots
                for travel in (0, 3):
                    growth = hop_growth(plan, rule, Round(*slots), "x", travel)
                    for many in (1, 2, 3, 4, 7):
                        told = [walked_hop(plan, delays, slots, travel, place, phase, many)
                                for place in range(len(slots)) for phase in range(len(plan))]
                        self.assertEqual(growth(many), max(told))
                    self.assertEqual(growth(0), 0)

    def test_it_is_waits_behind_slots(self):
        for plan, rule in LINES:
            needed = slots_needed(plan, rule)
            for text in RINGS:
                ring = Round.read(text)
                growth, wait = hop_growth(travel=1000, flow="x", ring=ring, rule=rule, plan=plan), waits(ring, "x")
                for many in (*range(1, 40), 10 ** 6, 10 ** 30):
                    self.assertEqual(growth(many), wait(needed(many)) + 1000)
                self.assertEqual((growth(0), growth.is_rising), (0, True))
                self.assertIsInstance(growth, Growth)
        self.assertEqual(str(hop_growth(Plan.copies(1), Burst(1, 1), Round("a", "b", "b"), "a", 2)), "0 8 then 3")
        self.assertEqual(str(hop_growth(Plan.plain(), Total(0), Round("a"), "a", 0)), "0 then 1")

    def test_refused(self):
        plan, rule, ring = Plan.copies(1), Burst(2, 2), Round("x", None)
        for value in any_values():
            self.refused(("BadPlan", "plan"), hop_growth, value, value, value, value, value)
            self.refused(("BadRule", "rule"), hop_growth, plan, value, value, value, value)
            self.refused(("BadRound", "ring"), hop_growth, plan, rule, value, value, value)
            self.refused(("BadName", value), hop_growth, plan, rule, ring, value, value)
            self.refused(("NoFlow", "y"), hop_growth, plan, rule, ring, "y", value)
            self.refused(("BadNumber", value), hop_growth, plan, rule, ring, "x", value)
        self.refused(("BadNumber", 1001), hop_growth, plan, rule, ring, "x", 1001)
        self.refused(("BadPlan", "plan"), hop_growth, rule, plan, ring, "x", 1)

    def test_rows_that_can_stay_unknown(self):
        for plan, rule in NEVER:
            self.assertIsInstance(rule, LossRule)
            self.refused(("Clashing", "rule"), hop_growth, plan, rule, Round("x"), "x", 0)
        for plan, rule in LINES:
            self.assertEqual(hop_growth(plan, rule, Round("x"), "x", 7)(1), slots_needed(plan, rule)(1) + 7)


class MetTest(Case):

    def test_no_cells_are_later(self):
        chance = dealer(1)
        for plan, rule in LINES:
            for text in RINGS:
                ring, travel = Round.read(text), chance.choice((0, 5))
                growth = hop_growth(plan, rule, ring, "x", travel)
                net = net_with(plan, rule, text, travel)
                for _ in range(25):
                    losses = ""
                    for _ in range(chance.randint(0, 40)):
                        slot = chance.choice(".xxx")
                        losses += slot if rule.lets(losses + slot) else "."
                    run = Run(net, {("l", "a"): chance.randrange(len(ring))}, {("l", "a", "x"): chance.randrange(len(plan))},
                              {("l", "a", "x"): losses})
                    ready, cells = chance.randint(0, 12 * len(ring)), chance.randint(1, 9)
                    there = passage(run, net.links[0], "a", "x", ready, cells)
                    self.assertLessEqual(there, ready + growth(cells))
                    self.assertGreaterEqual(there, ready + cells + travel)

    def test_the_worst_losses_from_the_worst_place_meet_it(self):
        for plan, rule in LINES:
            for text in RINGS:
                for cells in (1, 2, 3, 5):
                    ready, there = self.worst(plan, rule, text, cells)
                    growth = hop_growth(plan, rule, Round.read(text), "x", 2)
                    self.assertEqual(there - ready, growth(cells))

    def worst(self, plan, rule, text, cells):
        """When cells are ready, and there, at the worst phase and place, with losses of the row that is known last."""
        delays, needed = phase_delays(plan, rule), slots_needed(plan, rule)(cells)
        for phase in range(len(plan)):
            rows = [at for at in range(5 * cells + 5) if delays[(phase + at) % len(plan)] is not None][:cells]
            late = [at for at in rows if at + 1 + delays[(phase + at) % len(plan)] == needed]
            if late:
                return self.sent(plan, rule, text, cells, phase, late[0], needed)
        return None

    def sent(self, plan, rule, text, cells, phase, late, needed):
        """Cells whose first slot has this phase; the slot that is late, counted from it, has the worst losses."""
        paper = worst_losses(plan, rule, (phase + late) % len(plan))
        ahead = len(plan) * late
        losses = "." * ahead + paper.before + paper.losses
        first = ahead + len(paper.before) - late
        begin = (paper.begin - ahead) % len(plan)
        self.assertEqual((begin + first) % len(plan), phase)
        self.assertTrue(rule.lets(losses))
        ring = Round.read(text)
        worst = worst_place(ring, "x", needed)
        # The slots of a round ahead of the tick are counted from the place at which it began.
        for ready in range(30 * len(ring)):
            place = (worst - ready) % len(ring)
            if len([tick for tick in range(ready) if ring(place + tick) == "x"]) == first:
                net = net_with(plan, rule, text, 2)
                run = Run(net, {("l", "a"): place}, {("l", "a", "x"): begin}, {("l", "a", "x"): losses})
                return ready, passage(run, net.links[0], "a", "x", ready, cells)
        return None
