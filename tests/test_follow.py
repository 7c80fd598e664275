"""Passages and journeys, against flows that the test plays tick by tick and slot by slot."""

from itertools import product

from layerpost.follow import Journey, followed, passage
from layerpost.frames import FrameRule
from layerpost.losses import Burst, MachineRule, Total
from layerpost.nets import Flow, Lane, Link, Net
from layerpost.plans import Phase, Plan
from layerpost.rounds import Round
from layerpost.runs import Fall, Run
from layerpost.tables import Tables
from tests.helpers import Case, any_values, dealer
from tests.test_letters import let_losses
from tests.ticks import Copy, SlowFlow, SlowLine

LINES = ((Plan.plain(), Total(0)), (Plan.copies(1), Burst(1, 1)), (Plan.groups(2), Burst(1, 2)), (Plan.copies(1, 2), Burst(2, 2)),
         (Plan.copies(2), Total(3)), (Plan(Phase((1, 2), (3,)), Phase((2,))), Burst(1, 3)))
# Rows can stay unknown for ever.
LOSSY = ((Plan.plain(), Total(2)), (Plan.copies(1), MachineRule((0, 0))), (Plan.groups(3), MachineRule((0, 1), (0, 1))),
         (Plan(Phase((1, 3), (2, 4)), Phase((1, 2, 3, 4), mute=False)), MachineRule((0, 0))))
RINGS = ("x", "x y", "y x", "x - x", "x x y -", "- - x")
FRAMES = FrameRule.simple("01", "0")
# Two ways of two to four houses; the houses between are named b to f, the end is z.
WAYS = (("ab bz", "ac cz"), ("az", "ab bz"), ("ab bc cz", "ad dz"), ("az", "ab bc cd dz"), ("ab bz", "ac cd dz"))


def dealt_lane(chance, lines):
    """A lane by chance."""
    plan, rule = chance.choice(lines)
    return Lane(Round.read(chance.choice(RINGS)), chance.choice((0, 0, 1, 3)), plan, rule)


def two_ways(chance, ways, timeout, lines):
    """A net of two ways of a flow, and the tables that lead them."""
    pairs = [pair for way in ways for pair in way.split()]
    houses = sorted({house for pair in pairs for house in pair})
    links = [Link(pair, *(pair if chance.random() < .6 else pair[::-1]), dealt_lane(chance, lines), dealt_lane(chance, lines))
             for pair in pairs]
    net = Net(houses, links, [Flow("x", "a", "z", 6, timeout)], FRAMES, 4)
    rows = {(pair[0], "x", word): pair[1] for word, way in zip(("first", "spare"), ways) for pair in way.split()}
    return net, Tables(net, rows)


def dealt_run(net, chance, fall=None, many=4):
    """A run by chance: places, phases, losses, and some letters."""
    lanes = {(link.name, house): link.lane_from(house) for link in net.links for house in (link.one, link.other)}
    lines = {(*key, "x"): lane for key, lane in lanes.items()}
    pairs = sorted([(chance.choice((0, 0, 5, 30, 31)), "".join([chance.choice("01") for _ in range(chance.randint(0, 6))]))
                    for _ in range(many)])
    return Run(net, {key: chance.randrange(len(lane.ring)) for key, lane in lanes.items()},
               {key: chance.randrange(len(lane.plan)) for key, lane in lines.items()},
               {key: let_losses(chance, lane.rule, chance.choice((0, 5, 25))) for key, lane in lines.items()},
               {"x": sorted(pairs, key=lambda pair: pair[0])}, fall)


def houses_of(way):
    """The houses of a way of links."""
    return [way.split()[0][0], *[pair[1] for pair in way.split()]]


class PassageTest(Case):

    def test_against_slots(self):
        chance = dealer(1)
        never = 0
        for at in range(500):
            lane = dealt_lane(chance, LINES + LOSSY)
            net = Net(["a", "b"], [Link("l", "b", "a", Lane(Round("-" and None)), lane)], [Flow("x", "a", "b", 4, 9)], FRAMES, 4)
            losses = let_losses(chance, lane.rule, chance.choice((0, 3, 12, 60)))
            place, phase = chance.randrange(len(lane.ring)), chance.randrange(len(lane.plan))
            run = Run(net, {("l", "a"): place}, {("l", "a", "x"): phase}, {("l", "a", "x"): losses}, fall=Fall(0, "l"))
            ready, cells = chance.choice((0, 1, 2, 7, 30, 60, chance.randint(0, 200))), chance.randint(1, 8)
            wanted = self.walked(lane, place, phase, losses, ready, cells)
            self.assertEqual(passage(run, net.links[0], "a", "x", ready, cells), wanted, at)
            never += wanted is None
        self.assertGreater(never, 60)

    def test_all_short_losses(self):
        # Rows ahead of the cells that stay unknown play a part as far as a sum can reach.
        for plan in (Plan.groups(3), Plan(Phase((1, 4))), Plan(Phase((4,), (1, 2)), Phase((3,))),
                     Plan(Phase((1, 3)), Phase((1, 2, 4), mute=True), Phase((2,)))):
            lane = Lane(Round("x"), 0, plan, MachineRule((0, 0)))
            net = Net(["a", "b"], [Link("l", "a", "b", lane, lane)], [Flow("x", "a", "b", 4, 9)], FRAMES, 4)
            for losses in ["".join(signs) for many in (3, 5) for signs in product(".x", repeat=many)]:
                for phase in range(len(plan)):
                    run = Run(net, None, {("l", "a", "x"): phase}, {("l", "a", "x"): losses})
                    for ready in range(len(losses) + 1):
                        for cells in (1, 2):
                            wanted = self.walked(lane, 0, phase, losses, ready, cells)
                            self.assertEqual(passage(run, net.links[0], "a", "x", ready, cells), wanted)

    def walked(self, lane, place, phase, losses, ready, cells):
        """The tick, by a line slot by slot; as long as a kept slot could tell something."""
        line, copy = SlowLine(lane, "x", place, phase, losses), Copy(0, 0, cells, ("a", "b"), False)
        for tick in range(ready + (len(losses) + 6 * cells + 20) * len(lane.ring)):
            if tick == ready:
                line.take(copy)
            line.step(tick)
            if copy.there is not None:
                return copy.there
        return None

    def test_by_hand(self):
        net = Net(["a", "b"], [Link("l", "a", "b", Lane(Round("x", None), 3, Plan.copies(1), Burst(1, 1)), Lane(Round("x")))],
                  [Flow("x", "a", "b", 4, 9)], FRAMES, 4)
        link, key = net.links[0], ("l", "a", "x")
        for place, losses, ready, cells, there in ((0, "", 0, 1, 4), (0, "", 1, 1, 6), (1, "", 0, 1, 5), (0, "x", 0, 1, 6), (0, "x", 1, 1, 6),
                                                   (0, "x.x", 0, 3, 10), (0, ".x", 0, 1, 4), (0, ".x", 2, 1, 8), (0, "", 20000, 400, 20802)):
            run = Run(net, {("l", "a"): place}, None, {key: losses})
            self.assertEqual(passage(run=run, link=link, house="a", flow="x", ready=ready, cells=cells), there)
        self.assertEqual(passage(Run(net), link, house="b", flow="x", ready=7, cells=5), 12)

    def test_cells_that_are_never_known(self):
        net = Net(["a", "b"], [Link("l", "a", "b", Lane(Round("x"), 0, Plan.plain(), MachineRule((0, 0))), Lane(Round("x")))],
                  [Flow("x", "a", "b", 4, 9)], FRAMES, 4)
        run = Run(net, losses={("l", "a", "x"): "..x" + "." * 300 + "x" * 97})
        told = [passage(run, net.links[0], "a", "x", ready, cells) for ready, cells in (
            (0, 2), (0, 3), (2, 1), (3, 300), (3, 301), (303, 1), (399, 1), (400, 400), (20000, 1))]
        self.assertEqual(told, [2, None, None, 303, None, None, None, 800, 20001])

    def test_far_off_losses_play_no_part(self):
        # Four kept slots on, nothing that was lost is told any more; three on, it is.
        plan = Plan(Phase((4,)))
        net = Net(["a", "b"], [Link("l", "a", "b", Lane(Round("x"), 0, plan, Burst(1, 4)), Lane(Round("x")))],
                  [Flow("x", "a", "b", 4, 9)], FRAMES, 4)
        for ahead in (0, 1, 100, 399):
            run = Run(net, losses={("l", "a", "x"): "." * ahead + "x"})
            self.assertEqual(passage(run, net.links[0], "a", "x", ahead, 1), ahead + 5)
            self.assertEqual([passage(run, net.links[0], "a", "x", ahead + at, 1) for at in range(1, 7)],
                             [ahead + at + 1 for at in range(1, 7)])

    def test_four_hundred_lost_slots(self):
        plan = Plan.copies(1, 2, 3, 4)
        net = Net(["a", "b"], [Link("l", "a", "b", Lane(Round("x"), 0, plan, MachineRule((0, 0))), Lane(Round("x")))],
                  [Flow("x", "a", "b", 4, 9)], FRAMES, 4)
        for losses, ready, cells, there in (("x" * 400, 0, 400, None), ("x" * 400, 396, 4, 401), ("x" * 400, 395, 1, None),
                                            (".xxxx" * 80, 0, 400, 401), ("xxxx." * 80, 0, 400, 400)):
            run = Run(net, losses={("l", "a", "x"): losses})
            self.assertEqual(passage(run, net.links[0], "a", "x", ready, cells), there)


class FollowedTest(Case):

    def compare(self, run, tables, ways, ticks=700):
        """The journeys are as the test's own ticks tell; the kinds of what was met."""
        journeys = followed(run=run, tables=tables, flow="x")
        slow = SlowFlow(run, {word: houses_of(way) for word, way in zip(("first", "spare"), ways)}, "x", ticks)
        told = [Journey(*[letter[name] for name in ("mark", "way", "taken", "there", "ended")]) for letter in slow.letters]
        self.assertEqual(journeys, told[:len(journeys)])
        met, way = set(), "first"
        for at, letter in enumerate(slow.letters):
            is_changed, way = letter["way"] != way, letter["way"]
            is_last = letter["ended"] is None or is_changed and letter["elder"] is not None
            met.add((is_changed, letter["ended"] is None, letter["there"] is None, is_changed and letter["elder"] is not None))
            if is_last:
                self.assertEqual(len(journeys), at + 1)
                return met
        self.assertEqual(len(journeys), len(slow.letters))
        return met

    def test_runs_by_chance(self):
        chance = dealer(2)
        met = {}
        for at in range(400):
            ways, lines = chance.choice(WAYS), chance.choice((LINES, LINES, LINES + LOSSY[:1]))
            net, tables = two_ways(chance, ways, chance.choice((3, 10, 25, 60, 150)), lines)
            between = [house for house in net.houses if house not in "az"]
            names = between + [link.name for link in net.links]
            fall = Fall(chance.randint(0, 60), chance.choice(names)) if chance.random() < .6 else None
            for kind in self.compare(dealt_run(net, chance, fall), tables, ways):
                met[kind] = met.get(kind, 0) + 1
        # With a change and without one, answered and not, there and not, an elder answer that comes.
        for kind in ((False, False, False, False), (True, False, False, False), (True, False, False, True), (True, True, True, False),
                     (True, True, False, False)):
            self.assertGreater(met.get(kind, 0), 0, kind)

    def test_a_fall_at_each_tick(self):
        chance = dealer(3)
        for ways in WAYS[1:4]:
            net, tables = two_ways(chance, ways, 70, LINES)
            run = dealt_run(net, chance, many=2)
            names = [house for house in net.houses if house not in "az"] + [link.name for link in net.links]
            last = max([journey.ended for journey in followed(run, tables, "x")])
            for name in names:
                for tick in range(0, last + 2):
                    self.compare(run.with_fall(Fall(tick, name)), tables, ways, 320)

    def test_time_outs_from_the_shortest_to_one_that_never_comes(self):
        chance = dealer(4)
        for ways in WAYS:
            for timeout in range(1, 40):
                net, tables = two_ways(dealer(5), ways, timeout, LINES[:3])
                self.compare(dealt_run(net, chance), tables, ways, 400)

    def net(self, timeout=12, most=4):
        """The net of the document's example: x to y, and by z."""
        lane = Lane(Round("a"), 1)
        links = [Link("xy", "x", "y", lane, lane), Link("xz", "x", "z", lane, lane), Link("zy", "z", "y", lane, lane)]
        net = Net(["x", "y", "z"], links, [Flow("a", "x", "y", most, timeout)], FRAMES, 4)
        return net, Tables.of(net)

    def test_by_hand(self):
        net, tables = self.net()
        run = Run(net, contents={"a": [(0, ""), (0, "01"), (20, "")]})
        plain = [Journey(0, "first", 0, 2, 4), Journey(1, "first", 4, 7, 9), Journey(0, "first", 20, 22, 24)]
        self.assertEqual(followed(run, tables, "a"), plain)
        self.assertEqual(followed(Run(net), tables, "a"), [])
        self.assertEqual(passage(Run(net), net.links[0], "x", "a", 5, 3), 9)
        # The second letter is lost, and comes by z: 12 ticks on, two lanes of three.
        spare = [plain[0], Journey(1, "spare", 4, 22, 26), Journey(0, "spare", 26, 30, 34)]
        for name, tick, wanted in (("xy", 5, spare), ("xy", 7, spare), ("xy", 10, plain[:2] + [Journey(0, "spare", 20, 36, 40)]),
                                   ("xz", 0, plain), ("z", 0, plain), ("xy", 25, plain), ("zy", 30, plain)):
            self.assertEqual(followed(run.with_fall(Fall(tick, name)), tables, "a"), wanted)
        # It is there at 7 and its answer is lost: of two copies the first one counts.
        answer = [plain[0], Journey(1, "spare", 4, 7, 26), Journey(0, "spare", 26, 30, 34)]
        for tick in (8, 9):
            self.assertEqual(followed(run.with_fall(Fall(tick, "xy")), tables, "a"), answer)

    def test_time_outs_without_a_fall(self):
        net, tables = self.net(timeout=5)
        run = Run(net, contents={"a": [(0, ""), (0, "01"), (20, "")]})
        # At 9 the time-out would come, but the answer comes first.
        self.assertEqual(followed(run, tables, "a"), followed(run.on_net(self.net()[0]), tables, "a"))
        net, tables = self.net(timeout=4)
        hasty = [Journey(0, "first", 0, 2, 4), Journey(1, "spare", 4, 7, 9)]
        self.assertEqual(followed(run.on_net(net), tables, "a"), hasty)
        # The elder answer is lost on its way: no other sending can be ended by it.
        fallen = run.on_net(net).with_fall(Fall(9, "xy"))
        self.assertEqual(followed(fallen, tables, "a"), [hasty[0], Journey(1, "spare", 4, 7, 18), Journey(0, "spare", 20, 24, 28)])

    def test_letters_that_are_never_answered(self):
        net, tables = self.net(timeout=4)
        run = Run(net, contents={"a": [(0, ""), (0, "01"), (20, "")]}, fall=Fall(16, "z"))
        hasty = [Journey(0, "first", 0, 2, 4), Journey(1, "spare", 4, 7, 9)]
        self.assertEqual(followed(run, tables, "a"), hasty)
        # Cells that stay unknown for ever are lost, on the first way and on the spare one.
        lossy = Lane(Round("a"), 1, None, Total(1))
        for name, keys, wanted in (("xy", [("xy", "x", "a")], [Journey(0, "spare", 0, 16, 20), Journey(1, "spare", 20, 26, 30),
                                                               Journey(0, "spare", 30, 34, 38)]),
                                   ("xy", [("xy", "x", "a"), ("xz", "x", "a")], [Journey(0, "spare", 0, None, None)])):
            told, tables = self.net()
            for link in told.links:
                told = told | Link(link.name, link.one, link.other, lossy, link.back)
            losses = {key: "x" if key[0] == name else "." * 12 + "x" for key in keys}
            broken = Run(told, losses=losses, contents={"a": [(0, ""), (0, "01"), (20, "")]})
            self.assertEqual(followed(broken, Tables.of(told), "a"), wanted)

    def test_a_spare_way_that_does_not_lead(self):
        net, tables = self.net()
        first = Tables(net).laid("a", "first", ("x", "y"))
        run = Run(net, contents={"a": [(0, "01"), (0, "")]})
        for rows in ({}, {("x", "a", "spare"): "z"}, {("x", "a", "spare"): "z", ("z", "a", "spare"): "x"}):
            told = first | Tables(net, rows)
            self.assertEqual(followed(run, told, "a"), followed(run, tables, "a"))
            fallen = run.with_fall(Fall(4, "xy"))
            self.assertEqual(followed(fallen, told, "a"), [Journey(0, "spare", 0, 3, None)])

    def test_late_contents_and_long_time_outs(self):
        net, tables = self.net(timeout=10 ** 9, most=199)
        run = Run(net, contents={"a": [(20000, "01" * 99 + "0"), (20000, "")]}, fall=Fall(20000, "xy"))
        cells = -(-len(FRAMES.frame("0" + "01" * 99 + "0")) // 4)
        begin = 20000 + 10 ** 9
        end = begin + 2 * (cells + 1)
        self.assertEqual(followed(run, tables, "a"), [Journey(0, "spare", 20000, end, end + 4), Journey(1, "spare", end + 4, end + 8, end + 12)])

    def test_a_lane_without_own_slots(self):
        idle, lane = Lane(Round(None)), Lane(Round("a"))
        net = Net(["x", "y", "z"], [Link("xy", "x", "y", lane, idle), Link("xz", "x", "z", lane, lane), Link("zy", "z", "y", lane, lane)],
                  [Flow("a", "x", "y", 4, 12)], FRAMES, 4)
        tables = Tables(net, {("x", "a", "first"): "y", ("x", "a", "spare"): "z", ("z", "a", "spare"): "y"})
        run = Run(net, contents={"a": [(0, ""), (0, "")]})
        self.assertEqual(followed(run, tables, "a"), [Journey(0, "spare", 0, 1, 16), Journey(1, "spare", 16, 18, 20)])


class JourneyTest(Case):

    def test_papers(self):
        names = ("mark", "way", "taken", "there", "ended")
        for value in any_values():
            journey = Journey(value, 1, 2, 3, 4)
            self.assertEqual(vars(journey), dict(zip(names, (value, 1, 2, 3, 4))))
            self.assertEqual(journey, Journey(ended=4, there=3, taken=2, way=1, mark=value))
            self.assertTrue(journey)
            self.assertFalse(journey == value or journey == (value, 1, 2, 3, 4))
        for at in range(5):
            parts = [0, 1, 2, 3, 4]
            parts[at] = 9
            self.assertFalse(Journey(0, 1, 2, 3, 4) == Journey(*parts))
