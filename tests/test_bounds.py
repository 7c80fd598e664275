"""Greatest delays of ways: against sums over lanes that the test makes itself."""

from layerpost.bounds import Alarm, Met, Sound, answer_shares, answer_ticks, cells_growth, exchange_ticks, greatest_delay
from layerpost.bounds import lane_growth, lane_shares, round_trip, sound, way_growth, worst_run
from layerpost.frames import FrameRule
from layerpost.growths import Growth
from layerpost.hops import hop_growth
from layerpost.longest import most_cells
from layerpost.look_bounds import shows_met, shows_sound
from layerpost.losses import Burst, MachineRule, Total
from layerpost.nets import Flow, Lane, Link, Net
from layerpost.plans import Phase, Plan
from layerpost.rounds import Round
from layerpost.routes import is_way
from layerpost.tables import Tables, leads
from tests.helpers import Case, any_values, dealer
from tests.sums import back_shares, cells_at, delay_at, forth_shares, hop_at, longest, trip_at
from tests.test_frames import HDLC, LOOP, SHORT

LINES = ((Plan.plain(), Total(0)), (Plan.copies(1), Burst(1, 1)), (Plan.groups(2), Burst(1, 2)), (Plan.copies(1, 2), Burst(2, 2)),
         (Plan.copies(4), Burst(1, 4)), (Plan(Phase((1, 2), (3,)), Phase((2,))), Burst(1, 3)),
         (Plan(Phase((1,)), Phase((1,), mute=True), Phase()), Burst(1, 3)))
RINGS = ("x", "x y", "y x", "x - x", "x x y -", "- - x")
# Of some of these the mark 1 has the longer frames, of the last one the mark 0.
FRAMES = (SHORT, HDLC, FrameRule.simple("1", "0"), FrameRule.simple("10", "1"), FrameRule("011", ("01", "0"), ("1", "0")),
          FrameRule.simple("0", "1"))
WAYS = (("ab bz", "ac cz"), ("az", "ab bz"), ("ab bc cz", "ad dz"), ("ab bz", "ac cd dz"))
LENGTHS = (0, 1, 2, 3, 7, 31, 100, 199, 10 ** 6 + 1, 10 ** 30)


def dealt_lane(chance, lines=LINES, rings=RINGS):
    """A lane by chance."""
    plan, rule = chance.choice(lines)
    return Lane(Round.read(chance.choice(rings)), chance.choice((0, 0, 1, 3)), plan, rule)


def dealt_ways(chance, ways, timeout, most=6, frames=SHORT, size=4, lines=LINES, rings=RINGS):
    """A net of two ways of the flow x by chance, and the tables that lead them."""
    pairs = [pair for way in ways for pair in way.split()]
    links = [Link(pair, *chance.choice((pair, pair[::-1])), dealt_lane(chance, lines, rings), dealt_lane(chance, lines, rings))
             for pair in pairs]
    net = Net(sorted({house for pair in pairs for house in pair}), links, [Flow("x", "a", "z", most, timeout)], frames, size)
    rows = {(pair[0], "x", word): pair[1] for word, way in zip(("first", "spare"), ways) for pair in way.split()}
    return net, Tables(net, rows)


def houses_on(tables, way, flow="x"):
    """The houses of a way."""
    return leads(tables, flow, way).houses


def with_flow(tables, **parts):
    """Tables of a net whose flow x is otherwise."""
    flow = tables.net.flow_named("x")
    told = {"name": "x", "begin": flow.begin, "end": flow.end, "most": flow.most, "timeout": flow.timeout, **parts}
    return Tables(tables.net | Flow(**told), dict(tables))


class GrowthsTest(Case):

    def tables(self, many=16):
        chance = dealer(3)
        for at in range(many):
            frames, size = chance.choice(FRAMES), chance.choice((1, 3, 4, 8, 32))
            yield dealt_ways(chance, chance.choice(WAYS), 100, frames=frames, size=size)

    def test_cells(self):
        for frames in FRAMES:
            for size in (1, 2, 5, 32):
                net = Net(list("ab"), [], [], frames, size)
                both = cells_growth(net)
                for mark in (0, 1):
                    growth = cells_growth(net, mark)
                    self.assertEqual([growth(length) for length in LENGTHS], [cells_at(net, mark, length) for length in LENGTHS])
                    self.assertEqual(growth, most_cells(frames, size, str(mark)))
                for length in LENGTHS:
                    self.assertEqual(both(length), max(cells_at(net, 0, length), cells_at(net, 1, length)))
                self.assertEqual(cells_growth(mark=None, net=net), both)

    def test_lanes(self):
        for net, tables in self.tables(20):
            for link in net.links:
                for house, lane in ((link.one, link.there), (link.other, link.back)):
                    growth = lane_growth(net, link.name, house, "x")
                    self.assertEqual(growth, hop_growth(lane.plan, lane.rule, lane.ring, "x", lane.travel))
                    for cells in (0, 1, 2, 5, 77, 10 ** 30):
                        self.assertEqual(growth(cells), hop_at(lane, "x", cells))

    def test_ways_and_round_trips(self):
        for net, tables in self.tables():
            for way in ("first", "spare"):
                houses = houses_on(tables, way)
                growths = [way_growth(tables, "x", way, mark) for mark in (0, 1)]
                both, trip = way_growth(tables, "x", way), round_trip(tables, "x", way)
                for length in LENGTHS:
                    delays = [delay_at(net, "x", houses, mark, length) for mark in (0, 1)]
                    self.assertEqual([growth(length) for growth in growths], delays)
                    self.assertEqual(both(length), max(delays))
                    trips = [trip_at(net, "x", houses, mark, length) for mark in (0, 1)]
                    self.assertEqual(trip(length), max(trips))
                self.assertIsInstance(trip, Growth)
                answers = [answer_ticks(tables, "x", mark, way) for mark in (0, 1)]
                self.assertEqual(answers, [trip_at(net, "x", houses, mark, 5) - delay_at(net, "x", houses, mark, 5)
                                           for mark in (0, 1)])
            self.assertEqual(way_growth(tables, "x"), way_growth(tables, flow="x", mark=None, way="first"))
            self.assertEqual(round_trip(tables, "x"), round_trip(tables, "x", "first"))
            self.assertEqual(answer_ticks(tables, "x", 1), answer_ticks(way="first", mark=1, flow="x", tables=tables))

    def test_shares(self):
        seen = set()
        for net, tables in self.tables():
            for way in ("first", "spare"):
                houses = houses_on(tables, way)
                for length in LENGTHS:
                    told = [lane_shares(tables, "x", length, way, mark) for mark in (0, 1)]
                    self.assertEqual(told, [forth_shares(net, "x", houses, mark, length) for mark in (0, 1)])
                    sums = [sum([ticks for _, _, ticks in shares]) for shares in told]
                    self.assertEqual(sums, [way_growth(tables, "x", way, mark)(length) for mark in (0, 1)])
                    # Without a mark those of the mark that has D, of 0 if both have it.
                    self.assertEqual(lane_shares(tables, "x", length, way), told[1 if sums[1] > sums[0] else 0])
                    seen.add((sums[1] > sums[0], sums[0] > sums[1], told[0] == told[1]))
                for mark in (0, 1):
                    back = answer_shares(tables, "x", mark, way)
                    self.assertEqual(back, back_shares(net, "x", houses, mark))
                    self.assertEqual(sum([ticks for _, _, ticks in back]), answer_ticks(tables, "x", mark, way))
            self.assertEqual(answer_shares(mark=0, flow="x", tables=tables), answer_shares(tables, "x", 0, "first"))
            self.assertEqual(lane_shares(tables, "x", length=9), lane_shares(tables, "x", 9, "first", None))
        self.assertEqual(seen, {(True, False, False), (False, True, False), (False, False, True)})

    def test_by_hand(self):
        lane = Lane(Round("a"), 1)
        links = [Link("xy", "x", "y", lane, lane), Link("xz", "x", "z", lane, lane), Link("zy", "z", "y", lane, lane)]
        tables = Tables.of(Net(["x", "y", "z"], links, [Flow("a", "x", "y", 4, 12)], FrameRule.simple("01", "0"), 4))
        self.assertEqual(lane_shares(tables, "a", 3, "spare"), (("xz", 3, 4), ("zy", 3, 4)))
        self.assertEqual(answer_shares(tables, "a", 1, "spare"), (("zy", 1, 2), ("xz", 1, 2)))
        self.assertEqual(longest(FrameRule.simple("01", "0"), "0", 3), 10)

    def test_sums_that_a_growth_has_not(self):
        # Rounds of 23, 19 and 17 own slots have too many gains together, but each number is told.
        links = [Link(name, *name, Lane(Round(None, *["x"] * many)), Lane(Round(None, *["x"] * many)))
                 for name, many in (("ab", 23), ("bc", 19), ("cz", 17), ("ad", 12), ("dz", 1))]
        net = Net(list("abcdz"), links, [Flow("x", "a", "z", 9, 10 ** 6)], SHORT, 1)
        tables = Tables(net).laid("x", "first", tuple("abcz")).laid("x", "spare", tuple("adz"))
        for work in (way_growth, round_trip):
            self.refused(("TooMany", "gains", 2000), work, tables, "x")
        forth = [sum([ticks for _, _, ticks in forth_shares(net, "x", tuple("abcz"), mark, 9)]) for mark in (0, 1)]
        self.assertEqual(greatest_delay(tables, "x", 9), max(forth))
        self.assertEqual(sum([share[2] for share in lane_shares(tables, "x", 10 ** 30)]),
                         max([delay_at(net, "x", tuple("abcz"), mark, 10 ** 30) for mark in (0, 1)]))
        self.assertEqual(bool(sound(tables, "x")), True)
        self.assertIsInstance(exchange_ticks(tables, "x"), int)
        self.assertTrue(shows_sound(tables, "x", sound(tables, "x")))
        self.assertTrue(shows_met(tables, "x", 9, "first", worst_run(tables, "x", 9)))


class DelaysTest(Case):

    def test_greatest_delays_without_a_fall_and_with_one(self):
        chance = dealer(8)
        for at in range(12):
            ways = chance.choice(WAYS)
            net, tables = dealt_ways(chance, ways, 10 ** 4, frames=chance.choice(FRAMES), size=chance.choice((1, 4)))
            first, spare = houses_on(tables, "first"), houses_on(tables, "spare")
            trip = max([trip_at(net, "x", first, mark, 6) for mark in (0, 1)])
            trip_spare = max([trip_at(net, "x", spare, mark, 6) for mark in (0, 1)])
            for timeout in (trip, trip + 1, 10 ** 9):
                told = with_flow(tables, timeout=timeout)
                for length in (0, 1, 5, 6):
                    main = max([delay_at(net, "x", first, mark, length) for mark in (0, 1)])
                    other = max([delay_at(net, "x", spare, mark, length) for mark in (0, 1)])
                    self.assertEqual(greatest_delay(told, "x", length), main)
                    self.assertEqual(greatest_delay(told, "x", length, 0), main)
                    self.assertEqual(greatest_delay(told, "x", length, falls=1), max(main, timeout + other))
                self.assertEqual(exchange_ticks(told, "x"), max(trip, timeout + trip_spare))
                for length in (7, -1, True, None, 10 ** 30):
                    self.refused(("BadNumber", length), greatest_delay, told, "x", length, 2)
            hasty = with_flow(tables, timeout=trip - 1)
            self.assertEqual(greatest_delay(hasty, "x", 6), max([delay_at(net, "x", first, mark, 6) for mark in (0, 1)]))
            self.refused(("Clashing", "timeout"), greatest_delay, hasty, "x", 6, 1)
            self.assertEqual(exchange_ticks(hasty, "x"), max(trip, trip - 1 + trip_spare))

    def test_a_slow_first_way(self):
        # The first way can be later than the time-out and the spare way together.
        slow, quick = Lane(Round("x"), 1000), Lane(Round("x"), 0)
        links = [Link("az", "a", "z", slow, quick), Link("ab", "a", "b", quick, quick), Link("bz", "b", "z", quick, quick)]
        net = Net(list("abz"), links, [Flow("x", "a", "z", 4, 1004)], SHORT, 4)
        tables = Tables(net).laid("x", "first", ("a", "z")).laid("x", "spare", ("a", "b", "z"))
        self.assertTrue(sound(tables, "x"))
        self.assertEqual([greatest_delay(tables, "x", 4, falls) for falls in (0, 1)], [1003, 1004 + 6])
        self.assertEqual(exchange_ticks(tables, "x"), 1004 + 8)

    def test_ways_that_are_not_apart(self):
        lane = Lane(Round("x"))
        links = [Link(pair, *pair, lane, lane) for pair in ("ab", "bz", "ac", "cz", "bc", "az")]
        net = Net(list("abcz"), links, [Flow("x", "a", "z", 4, 50)], SHORT, 4)
        for first, spare in (("abz", "abz"), ("abz", "acbz"), ("abcz", "acz"), ("az", "az"), ("abcz", "acbz")):
            tables = Tables(net).laid("x", "first", tuple(first)).laid("x", "spare", tuple(spare))
            self.refused(("Clashing", "ways"), greatest_delay, tables, "x", 4, 1)
            self.refused(("Clashing", "ways"), greatest_delay, with_flow(tables, timeout=1), "x", 4, 1)
            self.refused(("Clashing", "ways"), worst_run, tables, "x", 4, "spare")
            self.refused(("Clashing", "ways"), shows_met, tables, "x", 4, "spare", None)
            self.assertIsInstance(greatest_delay(tables, "x", 4), int)
            self.assertIsInstance(exchange_ticks(tables, "x"), int)
            self.assertTrue(shows_met(tables, "x", 4, "first", worst_run(tables, "x", 4)))
        for first, spare in (("abz", "acz"), ("az", "abcz"), ("abz", "az")):
            tables = Tables(net).laid("x", "first", tuple(first)).laid("x", "spare", tuple(spare))
            self.assertIsInstance(greatest_delay(tables, "x", 4, 1), int)


def works():
    """All functions of tables and a flow: with the words of the ways whose lanes they ask for."""
    yield (lambda tables, flow, way=None: way_growth(tables, flow)), "first"
    yield (lambda tables, flow, way="first": way_growth(tables, flow, way, "no mark")), None
    yield (lambda tables, flow, way="first": answer_ticks(tables, flow, None, way)), None
    yield (lambda tables, flow, way="first": round_trip(tables, flow, way)), None
    yield (lambda tables, flow, way="first": lane_shares(tables, flow, -1, way, "no mark")), None
    yield (lambda tables, flow, way="first": answer_shares(tables, flow, 2, way)), None
    yield (lambda tables, flow, way="first": worst_run(tables, flow, -1, way)), None
    yield (lambda tables, flow, way="first": shows_met(tables, flow, -1, way, None)), None
    yield (lambda tables, flow, way=None: greatest_delay(tables, flow, -1, 5)), "first"
    yield (lambda tables, flow, way=None: sound(tables, flow)), "first"
    yield (lambda tables, flow, way=None: shows_sound(tables, flow, None)), "first"
    yield (lambda tables, flow, way=None: exchange_ticks(tables, flow)), "first"


class RefusedTest(Case):

    def net(self, plan=None, rule=None, at="ab", way="there"):
        """A net in which one lane has this plan and rule."""
        links = []
        for pair in ("ab", "bz", "ac", "cz"):
            lanes = {"there": Lane(Round("x")), "back": Lane(Round("x"))}
            if pair == at:
                lanes[way] = Lane(Round("x"), 0, plan, rule)
            links.append(Link(pair, *pair, **lanes))
        return Net(list("abcz"), links, [Flow("y", "z", "a", 3, 3), Flow("x", "a", "z", 4, 50)], SHORT, 4)

    def tables(self, net):
        return Tables(net).laid("x", "first", tuple("abz")).laid("x", "spare", tuple("acz"))

    def test_tables_flows_and_ways(self):
        tables = self.tables(self.net())
        for work, _ in works():
            for value in any_values():
                self.refused(("BadTable", "tables"), work, value, value)
                self.refused(("NoFlow", value), work, tables, value)
            self.refused(("NoFlow", "ab"), work, tables, "ab")
            self.refused(("BadTable", "tables"), work, tables.net, "x")
        for work, fixed in works():
            if fixed is None:
                for value in [*any_values(), "third", "First"]:
                    self.refused(("BadTable", "way"), work, tables, "x", value)
                    self.refused(("NoFlow", "z"), work, tables, "z", value)

    def test_ways_that_do_not_lead_or_are_none_of_the_flow(self):
        net = self.net()
        other = net | Link("bz", "b", "z", Lane(Round("x")), Lane(Round("y")))
        for rows in ({}, {("a", "x", "first"): "b"}, {("a", "x", "first"): "b", ("b", "x", "first"): "a"}):
            for work, fixed in works():
                self.refused(("BadTable", "first"), work, Tables(net, rows), "x")
        for work, _ in works():
            # It leads, but an answer has no slots there.
            rows = {("a", "x", "first"): "b", ("b", "x", "first"): "z"}
            self.assertTrue(leads(Tables(other, rows), "x", "first"))
            self.assertFalse(is_way(other, "x", ("a", "b", "z")))
            self.refused(("BadTable", "first"), work, Tables(other, rows), "x")
        tables = Tables(net).laid("x", "first", tuple("abz"))
        for work, fixed in works():
            if fixed is None:
                self.refused(("BadTable", "spare"), work, tables, "x", "spare")
                self.refused(("BadTable", "first"), work, Tables(net).laid("x", "spare", tuple("acz")), "x", "first")
        # A function of both ways asks for the first one first, worst_run for its own.
        self.refused(("BadTable", "spare"), exchange_ticks, tables, "x")
        self.refused(("BadTable", "spare"), greatest_delay, tables, "x", 4, 1)
        self.refused(("BadNumber", 5), greatest_delay, tables, "x", 5, 7)
        self.refused(("BadNumber", 7), greatest_delay, tables, "x", 4, 7)
        self.assertIsInstance(greatest_delay(tables, "x", 4, 0), int)
        for work in (worst_run, lambda *told: shows_met(*told, None)):
            self.refused(("BadTable", "spare"), work, Tables(net), "x", -1, "spare")
            self.refused(("BadTable", "first"), work, Tables(net).laid("x", "spare", tuple("acz")), "x", -1, "spare")

    def test_lanes_that_do_not_repair(self):
        for plan, rule in ((Plan.plain(), Total(1)), (Plan.copies(1), Burst(2, 2)), (Plan.plain(), MachineRule((0, 0)))):
            for at, way in (("ab", "there"), ("ab", "back"), ("bz", "there"), ("bz", "back")):
                net = self.net(plan, rule, at, way)
                for work, _ in works():
                    self.refused(("Clashing", at), work, self.tables(net), "x")
                for work, fixed in works():
                    if fixed is None:
                        self.assertNotIn(self.error(work, self.tables(net)), [("Clashing", "ac"), ("Clashing", "cz")])
                self.refused(("Clashing", "rule"), lane_growth, net, at, at[0] if way == "there" else at[1], "x")
                self.assertIsInstance(lane_growth(net, at, at[1] if way == "there" else at[0], "x"), Growth)
            both = self.net(plan, rule, "bz", "back") | Link("ab", "a", "b", Lane(Round("x"), 0, plan, rule), Lane(Round("x")))
            for work, _ in works():
                self.refused(("Clashing", "ab"), work, self.tables(both), "x")
            net = self.net(plan, rule, "cz", "back")
            self.refused(("Clashing", "cz"), exchange_ticks, self.tables(net), "x")
            self.refused(("Clashing", "cz"), greatest_delay, self.tables(net), "x", 4, 1)
            self.assertTrue(sound(self.tables(net), "x"))
            self.assertTrue(worst_run(self.tables(net), "x", 2))

    def error(self, work, tables):
        try:
            return work(tables, "x", "spare")
        except ValueError as error:
            return (type(error).__name__, getattr(error, "part", None))

    def test_numbers_and_marks(self):
        tables = self.tables(self.net())
        for value in [*any_values(), 2, "0", "1"]:
            self.refused(("BadNumber", value), answer_ticks, tables, "x", value)
            self.refused(("BadNumber", value), answer_shares, tables, "x", value)
            if value is not None:
                self.refused(("BadNumber", value), way_growth, tables, "x", "first", value)
                self.refused(("BadNumber", value), cells_growth, tables.net, value)
                self.refused(("BadNumber", value), lane_shares, tables, "x", 10 ** 30, "first", value)
        for value in [*any_values(), 10 ** 30 + 1, "1"]:
            self.refused(("BadNumber", value), lane_shares, tables, "x", value, "spare", value)
            self.refused(("BadNumber", value), lane_shares, tables, "x", value, "spare", "no mark")
            self.refused(("BadNumber", value), greatest_delay, tables, "x", value, value)
            self.refused(("BadNumber", value), greatest_delay, tables, "x", 4, value)
            self.refused(("BadNumber", value), worst_run, tables, "x", value)
            self.refused(("BadNumber", value), shows_met, tables, "x", value, "first", None)
        self.refused(("BadNumber", 5), worst_run, tables, "x", 5)
        self.refused(("BadNumber", 2), greatest_delay, tables, "x", 4, 2)

    def test_lanes_and_nets(self):
        net = self.net()
        for value in any_values():
            self.refused(("BadNet", "net"), cells_growth, value, value)
            self.refused(("BadNet", "net"), lane_growth, value, value, value, value)
            self.refused(("NoLink", value), lane_growth, net, value, value, value)
            self.refused(("NoHouse", value), lane_growth, net, "ab", value, value)
            self.refused(("NoFlow", value), lane_growth, net, "ab", "a", value)
        self.refused(("NoLink", "a"), lane_growth, net, "a", "a", "x")
        self.refused(("NoHouse", "z"), lane_growth, net, "ab", "z", "q")
        self.refused(("NoFlow", "ab"), lane_growth, net, "ab", "a", "ab")
        # A flow of the net that has no slots there.
        self.refused(("NoFlow", "y"), lane_growth, net, "ab", "a", "y")

    def test_frame_rules(self):
        for frames, part in ((LOOP, "puts"), (FrameRule("111", ("11", "0")), None), (FrameRule("01"), "flag")):
            net = Net(list("abcz"), self.net().links, self.net().flows, frames, 4)
            tables = self.tables(net)
            calls = ((cells_growth, net), (way_growth, tables, "x"), (round_trip, tables, "x"), (answer_ticks, tables, "x", 0),
                     (lane_shares, tables, "x", 3), (answer_shares, tables, "x", 1), (greatest_delay, tables, "x", 4),
                     (greatest_delay, tables, "x", 4, 1), (sound, tables, "x"), (worst_run, tables, "x", 4),
                     (exchange_ticks, tables, "x"), (shows_sound, tables, "x", None), (shows_met, tables, "x", 4, "first", None))
            for work, *told in calls:
                if part is None:
                    work(*told)
                else:
                    self.refused(("Clashing", part), work, *told)
        self.refused(("BadNumber", 2), cells_growth, Net(list("ab"), [], [], LOOP, 4), 2)
        self.refused(("BadNumber", 2), way_growth, self.tables(Net(list("abcz"), self.net().links, self.net().flows, LOOP, 4)), "x", "first", 2)


class PapersTest(Case):

    def test_papers(self):
        for kind, fields in ((Sound, "trip mark forth back"), (Alarm, "trip run"), (Met, "run letter taken there")):
            names = fields.split()
            for at, value in enumerate(any_values()):
                told = [value, *range(len(names) - 1)]
                paper = kind(*told)
                self.assertEqual([getattr(paper, name) for name in names], told)
                self.assertEqual(paper, kind(**dict(zip(names, told))))
                for other in range(len(names)):
                    self.assertNotEqual(paper, kind(*[("no",) if at == other else part for at, part in enumerate(told)]))
            self.assertNotEqual(kind(*range(len(names))), tuple(range(len(names))))
        self.assertNotEqual(Sound(1, 2, 3, 4), Met(1, 2, 3, 4))
        self.assertEqual([bool(Sound(0, 0, (), ())), bool(Alarm(0, None)), bool(Met(None, "", 0, 0))], [True, False, True])
