"""Streams: against rows that the test works out itself, behind each own slot."""

from layerpost.losses import Burst, MachineRule, Total
from layerpost.nets import Lane
from layerpost.plans import Phase, Plan
from layerpost.repair import known_at
from layerpost.rounds import Round
from layerpost.streams import Stream
from tests.helpers import Case, any_values, dealer
from tests.test_letters import let_losses
from tests.ticks import Copy, SlowLine

LINES = ((Plan.plain(), Total(0)), (Plan.plain(), Total(8)), (Plan.copies(1), Burst(1, 1)), (Plan.copies(1, 2), Burst(2, 2)),
         (Plan.copies(2), MachineRule((0, 0))), (Plan.groups(2), Burst(1, 2)), (Plan.groups(3), MachineRule((0, 1), (0, 1))),
         (Plan(Phase((1, 2), (3,)), Phase((2,))), MachineRule((0, 0))), (Plan(Phase((1, 2, 3, 4))), Burst(4, 4)),
         (Plan(Phase((1,)), Phase((1,), mute=True), Phase()), Burst(1, 3)), (Plan(Phase((1, 3), (2, 4))), Total(8)))
SIMPLE = Lane(Round("a"), 0, Plan.copies(1), Burst(1, 1))


def lane_of(plan, rule):
    return Lane(Round("x"), 0, plan, rule)


class SlowStream:
    """A line in play, slot by slot: the things with their rows."""

    def __init__(self, lane, phase, losses):
        self.line = SlowLine(lane, "x", 0, phase, losses)
        self.things, self.slot, self.done = [], 0, []

    def take(self, many):
        thing = Copy(0, 0, many, "", False)
        self.things.append(thing)
        self.line.take(thing)

    def step(self):
        """One own slot; the things that are known with it."""
        self.line.step(self.slot)
        self.slot += 1
        known = [at for at, thing in enumerate(self.things) if thing.there is not None and at not in self.done]
        self.done += known
        return tuple(known)

    def is_idle(self):
        rows = [row for thing in self.things for row in thing.rows]
        return not self.line.waiting and all([self.line.heard.row(row) for row in rows])


class StreamTest(Case):

    def test_against_rows(self):
        chance, found = dealer(1), 0
        for _ in range(150):
            plan, rule = chance.choice(LINES)
            phase, losses = chance.randrange(len(plan)), let_losses(chance, rule, chance.choice((0, 5, 25, 40)))
            stream, slow = Stream(lane_of(plan, rule), "x", phase, losses), SlowStream(lane_of(plan, rule), phase, losses)
            for _ in range(45):
                if chance.random() < .2:
                    many = chance.choice((1, 1, 2, 3, 7))
                    stream = stream.taking(many)
                    slow.take(many)
                stream, known = stream.behind()
                self.assertEqual(known, slow.step())
                self.assertEqual(stream.cell_count, len(slow.line.waiting))
                self.assertIs(stream.is_idle, slow.is_idle())
                found += len(known) > 1
        self.assertGreater(found, 5)

    def test_by_the_slots_of_known_at(self):
        chance = dealer(2)
        for _ in range(120):
            plan, rule = chance.choice(LINES)
            losses = let_losses(chance, rule, 30)
            begin = chance.randrange(len(plan))
            slots = known_at(plan, begin, losses)
            stream = Stream(lane_of(plan, rule), "x", begin, losses)
            # A thing for each row that is made.
            rows = [at for at in range(len(losses)) if not plan[begin + at].mute]
            for _ in rows:
                stream = stream.taking(1)
            found = {}
            for slot in range(len(losses)):
                stream, known = stream.behind()
                found.update({thing: slot for thing in known})
            self.assertEqual([found.get(thing) for thing in range(len(rows))], [slots[row] for row in rows])

    def test_things_of_many_cells(self):
        stream = Stream(SIMPLE, "a").taking(500)
        for slot in range(500):
            self.assertEqual((stream.cell_count, stream.is_idle), (500 - slot, False))
            stream, known = stream.behind()
            self.assertEqual(known, (0,) if slot == 499 else ())
        self.assertEqual((stream.cell_count, stream.is_idle), (0, True))

    def test_by_hand(self):
        stream = Stream(SIMPLE, "a", losses="x.x").taking(2).taking(1)
        known = []
        for _ in range(4):
            stream, told = stream.behind()
            known.append(told)
        self.assertEqual(known, [(), (0,), (), (1,)])
        self.assertEqual(stream, Stream(SIMPLE, "a"))
        mute = Stream(lane_of(Plan.groups(2), Burst(1, 2)), "x", 2).taking(3)
        counts = []
        for _ in range(5):
            counts.append(mute.cell_count)
            mute, _ = mute.behind()
        self.assertEqual(counts, [3, 3, 2, 1, 1])

    def test_cells_that_are_never_known(self):
        stream = Stream(lane_of(Plan.plain(), Total(1)), "x", losses=".x").taking(2).taking(1)
        for wanted in ((), (), (1,), (), ()):
            stream, known = stream.behind()
            self.assertEqual(known, wanted)
        self.assertEqual((stream.cell_count, stream.is_idle), (0, False))

    def test_rows_of_nothing_play_no_part_in_idleness(self):
        stream, known = Stream(SIMPLE, "a", losses="x").behind()
        self.assertEqual((known, stream.is_idle), ((), True))

    def test_a_stream_stays(self):
        chance = dealer(3)
        for _ in range(40):
            plan, rule = chance.choice(LINES)
            stream = Stream(lane_of(plan, rule), "x", 0, let_losses(chance, rule, 12)).taking(2)
            for _ in range(6):
                before = (stream.cell_count, stream.is_idle)
                one, two = stream.behind(), stream.behind()
                self.assertEqual(one, two)
                self.assertEqual(stream.taking(3), stream.taking(3))
                self.assertNotEqual(stream.taking(3), stream)
                self.assertEqual((stream.cell_count, stream.is_idle), before)
                self.assertEqual(stream.behind(), one)
                self.assertEqual(stream.taking(1).cell_count, before[0] + 1)
                stream = one[0]


class EqualTest(Case):

    def behind(self, stream, many):
        for _ in range(many):
            stream, _ = stream.behind()
        return stream

    def test_lanes_flows_phases_losses(self):
        other = Lane(Round("a"), 1, Plan.copies(1), Burst(1, 1))
        turns = lane_of(Plan(Phase((1,)), Phase((2,))), Burst(1, 3))
        rows = [Stream(SIMPLE, "a"), Stream(other, "a"), Stream(SIMPLE, "b"), Stream(SIMPLE, "a", 0, "x"), Stream(SIMPLE, "a", 0, ".x"),
                Stream(turns, "a", 0), Stream(turns, "a", 1), Stream(turns, "a", 1, "x"), Stream(SIMPLE, "a").taking(1),
                Stream(SIMPLE, "a").taking(2), Stream(SIMPLE, "a").taking(1).taking(1), Stream(SIMPLE, "a").taking(2).taking(1),
                Stream(SIMPLE, "a").taking(1).taking(2), Stream(SIMPLE, "a", 0, "x").taking(1),
                Stream(SIMPLE, "a", 0, "x").taking(1).behind()[0], Stream(SIMPLE, "a", 0, "x").behind()[0]]
        for at, one in enumerate(rows):
            for place, two in enumerate(rows):
                self.assertEqual(one == two, at == place, (at, place))
        for value in [*any_values(), SIMPLE]:
            self.assertFalse(Stream(SIMPLE, "a") == value)

    def test_kept_slots_at_the_end_of_losses(self):
        self.assertEqual(Stream(SIMPLE, "a", 0, "x..."), Stream(SIMPLE, "a", 0, "x"))
        self.assertEqual(Stream(SIMPLE, "a", 0, "..."), Stream(SIMPLE, "a"))
        self.assertEqual(Stream(SIMPLE, "a", 0, "...x").behind()[0], Stream(SIMPLE, "a", 0, "..x"))
        self.assertEqual(Stream(flow="a", lane=SIMPLE, losses="", phase=0), Stream(SIMPLE, "a"))

    def test_whatever_numbers_things_have(self):
        old = self.behind(Stream(SIMPLE, "a").taking(1).taking(2), 3)
        self.assertEqual(old, Stream(SIMPLE, "a"))
        self.assertEqual(old.taking(2), Stream(SIMPLE, "a").taking(2))
        self.assertEqual(old.taking(2).taking(1), Stream(SIMPLE, "a").taking(2).taking(1))
        self.assertEqual([old.taking(1).behind()[1], Stream(SIMPLE, "a").taking(1).behind()[1]], [(2,), (0,)])
        lost = Stream(SIMPLE, "a", losses="...x")
        self.assertEqual(self.behind(lost.taking(3).taking(1), 4), self.behind(lost, 3).taking(1).behind()[0])

    def test_rows_of_nothing(self):
        # A lost row of nothing plays a part as long as an age can tell it.
        lane = lane_of(Plan.copies(3), MachineRule((0, 0)))
        lost = Stream(lane, "x", losses="x")
        found = [self.behind(lost, many) == Stream(lane, "x") for many in range(1, 7)]
        self.assertEqual(found, [False, False, False, True, True, True])
        # It is never told: behind three slots that are lost, too, it plays no part.
        never = Stream(lane, "x", losses="x..x")
        self.assertEqual(self.behind(never, 4), self.behind(Stream(lane, "x", losses="...x"), 4))
        self.assertNotEqual(self.behind(never, 3), Stream(lane, "x", losses="x"))
        self.assertEqual(self.behind(Stream(lane, "x", losses="x.."), 9), Stream(lane, "x"))

    def test_rows_of_nothing_that_a_known_sum_holds(self):
        # Only each third slot tells a sum: of the two lost rows ahead of it, neither of which is ever known.
        lane = lane_of(Plan(Phase(), Phase(), Phase((1, 2))), MachineRule((0, 0)))
        held, free = Stream(lane, "x", losses="xx"), Stream(lane, "x", losses="xxx")
        for many in (3, 6, 12):
            self.assertNotEqual(self.behind(held, many), Stream(lane, "x"))
            self.assertEqual(self.behind(free, many), Stream(lane, "x"))
            self.assertEqual(self.behind(held, many), self.behind(Stream(lane, "x", losses="...xx"), many + 3))
            self.assertNotEqual(self.behind(held, many), self.behind(Stream(lane, "x", losses="xx.xx"), many + 3))
            self.assertTrue(self.behind(held, many).is_idle)
        self.assertNotEqual(self.behind(free, 2), self.behind(Stream(lane, "x", losses="...x"), 5))

    def test_sums_that_are_known(self):
        # The sum of two lost rows of nothing is known; then the one row tells the other one.
        lane = lane_of(Plan(Phase((1, 2), (4,))), MachineRule((0, 0)))
        told = self.behind(Stream(lane, "x", losses="xx"), 3)
        other = self.behind(Stream(lane, "x", losses="xxx"), 3)
        self.assertNotEqual(told, other)
        self.assertEqual(self.behind(told, 9), Stream(lane, "x"))

    def test_alike_ones_go_on_alike(self):
        chance, pairs = dealer(5), 0
        for _ in range(60):
            plan, rule = chance.choice(LINES)
            rows = []
            for _ in range(6):
                stream = Stream(lane_of(plan, rule), "x", 0, let_losses(chance, rule, 4))
                for _ in range(4 * len(plan)):
                    stream = stream.taking(1) if chance.random() < .3 else stream
                    stream = stream.behind()[0]
                rows.append(stream)
            for one in rows:
                for two in rows:
                    if one is not two and one == two:
                        pairs += 1
                        left, right = one.taking(2), two.taking(2)
                        for _ in range(12):
                            (left, known), (right, other) = left.behind(), right.behind()
                            self.assertEqual(left.many - 1 in known, right.many - 1 in other)
                            self.assertEqual(len(known), len(other))
                            self.assertEqual((left, left.cell_count, left.is_idle), (right, right.cell_count, right.is_idle))
        self.assertGreater(pairs, 20)


class RefusedTest(Case):

    def test_streams(self):
        for value in any_values():
            self.refused(("BadNet", "lane"), Stream, value, value, value, value)
            self.refused(("BadName", value), Stream, SIMPLE, value, value, value)
            self.refused(("NoPhase", value), Stream, SIMPLE, "a", value, value)
            self.refused(("BadLosses", value), Stream, SIMPLE, "a", 0, value)
            self.refused(("BadNumber", value), Stream(SIMPLE, "a").taking, value)
        self.refused(("NoPhase", 1), Stream, SIMPLE, "a", 1, "xx")
        self.refused(("BadLosses", "xx"), Stream, SIMPLE, "a", 0, "xx")
        self.refused(("BadLosses", "." * 401), Stream, SIMPLE, "a", 0, "." * 401)
        self.refused(("BadName", "abcdefghi"), Stream, SIMPLE, "abcdefghi")
        for many in (0, 501):
            self.refused(("BadNumber", many), Stream(SIMPLE, "a").taking, many)
        self.assertEqual(Stream(SIMPLE, "a", 0, "." * 400), Stream(SIMPLE, "a"))
        # The flow need not have a slot on the lane.
        self.assertEqual(Stream(SIMPLE, "nobody").taking(many=1).behind()[1], (0,))
