"""Sound flows, alarms and worst runs: by walks of the test's own slots and rows, and lane by lane."""

from layerpost.bounds import Alarm, Met, Sound, greatest_delay, lane_shares, round_trip, sound, way_growth, worst_run
from layerpost.follow import followed
from layerpost.frames import FrameRule
from layerpost.legs import legs_of, trips_at
from layerpost.look_bounds import shows_met, shows_sound
from layerpost.losses import Burst, LossRule, Total
from layerpost.meets import Hardship, Meeting, latest_rows
from layerpost.nets import Flow, Lane, Link, Net
from layerpost.plans import Phase, Plan
from layerpost.reader import read_net
from layerpost.repair import phase_delays
from layerpost.rounds import Round
from layerpost.runs import Fall, Run
from layerpost.tables import Tables
from layerpost.waits import wait_from
from tests.helpers import Case, any_values, dealer
from tests.sums import back_shares, cells_at, delay_at, forth_shares, slots_at, trip_at, wait_at
from tests.test_bounds import FRAMES, WAYS, dealt_ways, houses_on, with_flow
from tests.test_frames import SHORT
from tests.ticks import SlowFlow

CROWDED = """net 1 11 : 1 0
houses a b c z
link ab b a
there 1 x
plan row / row / mute 1+2
rule losses 0 1 / 2 - / 0 -
back 0 x - -
plan row / row / mute 1+2
rule losses 0 1 / 2 - / 0 -
link bz z b
there 3 - - - x
plan row
rule losses 0 -
back 0 x
plan row / row / mute 1+2
rule losses 0 1 / 2 - / 0 -
link ac c a
there 1 x - -
plan row / row / mute 1+2
rule losses 0 1 / 2 - / 0 -
back 0 x - -
plan row
rule losses 0 -
link cz z c
there 0 - - - x
plan row
rule losses 0 -
back 1 - x - x x
plan row
rule losses 0 -
flow x a z 80 1020"""


def trips_of(tables, length=None):
    """The greatest round trips of both marks by the first way."""
    flow = tables.net.flow_named("x")
    length = flow.most if length is None else length
    return [trip_at(tables.net, "x", houses_on(tables, "first"), mark, length) for mark in (0, 1)]


def played(run, tables, ticks=1500):
    """The letters of the flow x of a run, as the test plays it."""
    ways = {way: houses_on(tables, way) for way in ("first", "spare")}
    return SlowFlow(run, ways, "x", ticks).letters


def is_let(run):
    """Whether the losses of all lines are let."""
    return all([run.net.link_named(link).lane_from(house).rule.lets(run.losses_of((link, house, flow)))
                for link, house, flow in run.told_lines()])


def cases(seed, many, timeout=10 ** 4, most=6):
    """Nets of two ways with tables: with frame rules for which the one mark, the other, or both are worse."""
    chance = dealer(seed)
    for _ in range(many):
        frames, size = chance.choice(FRAMES), chance.choice((1, 3, 4, 8))
        yield dealt_ways(chance, chance.choice(WAYS), timeout, most, frames, size)[1]


class SoundTest(Case):

    def test_time_outs_at_below_and_above_the_greatest_round_trip(self):
        marks = set()
        for tables in cases(1, 16):
            trips = trips_of(tables)
            trip, mark = max(trips), 1 if trips[1] > trips[0] else 0
            marks.add((trips[0] > trips[1]) - (trips[1] > trips[0]))
            houses = houses_on(tables, "first")
            for timeout in (trip, trip + 1, 10 ** 9):
                told = with_flow(tables, timeout=timeout)
                wanted = Sound(trip, mark, forth_shares(told.net, "x", houses, mark, 6), back_shares(told.net, "x", houses, mark))
                self.assertEqual(sound(told, "x"), wanted)
                self.assertTrue(shows_sound(told, "x", wanted))
                self.assertEqual(round_trip(told, "x")(6), trip)
            for timeout in (trip - 1, min(trips) - 1, min(trips) if min(trips) < trip else 1, trip // 2, 1):
                self.alarmed(with_flow(tables, timeout=max(1, timeout)), trip)
        self.assertEqual(marks, {-1, 0, 1})

    def alarmed(self, tables, trip):
        """The answer is an Alarm, whose run does what is told."""
        answer = sound(tables, "x")
        self.assertIsInstance(answer, Alarm)
        self.assertEqual((answer.trip, answer.run.net, answer.run.fall), (trip, tables.net, None))
        self.assertTrue(is_let(answer.run))
        self.assertTrue(all([tick <= 9999 for tick, _ in answer.run.contents_of("x")]))
        self.assertIn("spare", [letter["way"] for letter in played(answer.run, tables)])
        self.assertIn("spare", [letter.way for letter in followed(answer.run, tables, "x")])
        self.assertTrue(shows_sound(tables, "x", answer))
        # What is right of this flow is not of the same flow with a longer time-out.
        patient = with_flow(tables, timeout=10 ** 6)
        self.assertFalse(shows_sound(patient, "x", Alarm(trip, answer.run.on_net(patient.net))))

    def test_the_answer_comes_just_behind_the_time_out(self):
        for tables in cases(2, 12):
            trips = trips_of(tables)
            told = with_flow(tables, timeout=max(trips) - 1)
            run = sound(told, "x").run
            patient = with_flow(tables, timeout=max(trips))
            letters = played(run.on_net(patient.net), patient)
            self.assertEqual(letters[-1]["ended"] - letters[-1]["taken"], max(trips))
            self.assertNotIn("spare", [letter["way"] for letter in letters])

    def test_losses_that_are_too_long(self):
        # Each own slot is a cell of one sign, so a letter of 199 bits has some 400 rows, the last of which is lost.
        for rule, plan in ((Burst(1, 1), Plan.copies(1)), (Burst(1, 2), Plan.groups(2))):
            lane = Lane(Round("x"), 0, plan, rule)
            links = [Link(pair, *pair, lane, Lane(Round("x"))) for pair in ("az", "ab", "bz")]
            net = Net(list("abz"), links, [Flow("x", "a", "z", 199, 9)], FrameRule.simple("1", "0"), 1)
            tables = Tables(net).laid("x", "first", ("a", "z")).laid("x", "spare", ("a", "b", "z"))
            tables = with_flow(tables, timeout=round_trip(tables, "x")(199) - 1)
            self.refused(("TooMany", "slots", 400), sound, tables, "x")
            self.assertFalse(shows_sound(tables, "x", Alarm(round_trip(tables, "x")(199), Run(tables.net))))
            tables = with_flow(tables, timeout=round_trip(tables, "x")(199))
            self.assertTrue(sound(tables, "x"))
            self.refused(("TooMany", "slots", 400), worst_run, tables, "x", 199)
            self.refused(("TooMany", "slots", 400), worst_run, tables, "x", 3, "spare")
            self.assertFalse(shows_met(tables, "x", 199, "first", None))
            self.assertFalse(shows_met(tables, "x", 3, "spare", None))
            met = worst_run(tables, "x", 100)
            self.assertEqual(met.there - met.taken, greatest_delay(tables, "x", 100))

    def test_slots_up_to_just_400(self):
        # The letter comes to the lane cz behind so many ticks of travel, then its row is lost.
        for travel, is_told in ((396, True), (397, True), (398, False), (500, False)):
            lossy, plain = Lane(Round("x"), 0, Plan.copies(1), Burst(1, 1)), Lane(Round("x"))
            links = [Link("ac", "a", "c", Lane(Round("x"), travel), plain), Link("cz", "c", "z", lossy, plain),
                     Link("az", "a", "z", plain, plain)]
            net = Net(list("acz"), links, [Flow("x", "a", "z", 0, 10 ** 4)], SHORT, 4)
            tables = Tables(net).laid("x", "first", ("a", "c", "z")).laid("x", "spare", ("a", "z"))
            # One cell: it is there 1 + travel behind its taking up at 0, its row is lost in the slot of this tick.
            self.assertEqual([cells_at(net, mark, 0) for mark in (0, 1)], [1, 1])
            if is_told or travel == 398:
                met = worst_run(tables, "x", 0)
                self.assertEqual((met.taken, met.there), (0, travel + 3))
                self.assertEqual(len(met.run.losses_of(("cz", "c", "x"))), travel + 2)
            else:
                self.refused(("TooMany", "slots", 400), worst_run, tables, "x", 0)
        self.refused(("TooMany", "slots", 400), worst_run, self.later(399), "x", 0)
        self.assertEqual(len(worst_run(self.later(398), "x", 0).run.losses_of(("cz", "c", "x"))), 400)

    def later(self, travel):
        """Tables of a way whose second lane comes so much later."""
        lossy, plain = Lane(Round("x"), 0, Plan.copies(1), Burst(1, 1)), Lane(Round("x"))
        links = [Link("ac", "a", "c", Lane(Round("x"), travel), plain), Link("cz", "c", "z", lossy, plain),
                 Link("az", "a", "z", plain, plain)]
        net = Net(list("acz"), links, [Flow("x", "a", "z", 0, 10 ** 4)], SHORT, 4)
        return Tables(net).laid("x", "first", ("a", "c", "z")).laid("x", "spare", ("a", "z"))


class WorstRunTest(Case):

    def met(self, tables, length, way="first"):
        """A worst run, which is looked at from all sides."""
        net, flow = tables.net, tables.net.flow_named("x")
        met = worst_run(tables, "x", length, way)
        self.assertIsInstance(met, Met)
        run = met.run
        delay = max([delay_at(net, "x", houses_on(tables, way), mark, length) for mark in (0, 1)])
        self.assertEqual(met.there - met.taken, delay + (flow.timeout if way == "spare" else 0))
        contents = run.contents_of("x")
        self.assertIn(len(contents), (1, 2))
        self.assertEqual(contents[-1][1], met.letter)
        self.assertEqual(len(met.letter), length)
        self.assertTrue(is_let(run))
        self.assertLessEqual(met.taken, 9999)
        if way == "first":
            self.assertIsNone(run.fall)
        else:
            self.assertEqual(run.fall.tick, met.taken)
            links = [link for link, _, _ in lane_shares(tables, "x", length)]
            self.assertIn(run.fall.name, [*links, *houses_on(tables, "first")[1:-1]])
        letters = played(run, tables, met.there + 500)
        self.assertEqual((letters[-1]["taken"], letters[-1]["there"]), (met.taken, met.there))
        if len(letters) == 2:
            self.assertLess(letters[0]["ended"], met.taken)
            self.assertEqual(letters[0]["way"], "first")
        journey = followed(run, tables, "x")[-1]
        self.assertEqual((journey.taken, journey.there, journey.way), (met.taken, met.there, way))
        self.assertTrue(shows_met(tables, "x", length, way, met))
        return met

    def test_by_both_ways(self):
        marks = set()
        for tables in cases(3, 9):
            for timeout in (max(trips_of(tables)), max(trips_of(tables)) + 7):
                told = with_flow(tables, timeout=timeout)
                for length in (0, 3, 6):
                    for way in ("first", "spare"):
                        marks.add((way, len(self.met(told, length, way).run.contents_of("x"))))
                    met = worst_run(told, "x", length)
                    self.assertEqual(met, worst_run(way="first", length=length, flow="x", tables=told))
                    self.assertEqual(greatest_delay(told, "x", length), met.there - met.taken)
                    self.assertEqual(way_growth(told, "x", "spare")(length) + timeout,
                                     worst_run(told, "x", length, "spare").there - worst_run(told, "x", length, "spare").taken)
        self.assertEqual(marks, {("first", 1), ("first", 2), ("spare", 1), ("spare", 2)})

    def test_letters_of_up_to_all_lengths(self):
        lane = Lane(Round("x", None, "x"), 2)
        links = [Link(pair, *pair, lane, lane) for pair in ("az", "ab", "bz")]
        net = Net(list("abz"), links, [Flow("x", "a", "z", 199, 10 ** 4)], FRAMES[2], 4)
        tables = Tables(net).laid("x", "first", ("a", "z")).laid("x", "spare", ("a", "b", "z"))
        for length in (0, 1, 198, 199):
            self.met(tables, length)
            self.met(tables, length, "spare")

    def test_losses_need_slots_ahead_of_them(self):
        # The losses behind which a row is latest begin some slots ahead of it, so the taking up is not at 0.
        chance = dealer(6)
        found = 0
        for plan, rule in (("row 1+4 / row 2+3", "losses 0 1 / 2 - / 0 -"), ("row 2+3 3+4 / row 1+4 3", "losses 0 1 / 0 -"),
                           ("row 1+2+3 2+3 3", "losses 0 1 / 2 - / 1 0"), ("row 2 2+4 / row 1+2+3 3 / row 2+3", "losses 0 1 / 2 3 / 4 - / 2 - / 5 - / 0 -")):
            line = (Plan.read(plan), LossRule.read(rule))
            for ways in WAYS[:2]:
                _, tables = dealt_ways(chance, ways, 10 ** 5, lines=(line,), rings=("x", "- x"))
                tables = with_flow(tables, timeout=round_trip(tables, "x")(6))
                for length in (0, 4):
                    for way in ("first", "spare"):
                        met = self.met(tables, length, way)
                        found += met.taken > 0 and len(met.run.contents_of("x")) == 1
        self.assertGreater(found, 1)

    def test_taken_up_at_most_at_9999(self):
        # One own slot of 24, so that the letter ahead needs long, and the mark 1 is the worse one.
        slow = Lane(Round(*[None] * 23, "x"), 400)
        links = [Link(pair, *pair, slow, slow) for pair in ("ab", "bc", "cz", "ad", "dz")]
        net = Net(list("abcdz"), links, [Flow("x", "a", "z", 9, 10 ** 6)], FRAMES[2], 1)
        tables = Tables(net).laid("x", "first", tuple("abcz")).laid("x", "spare", tuple("adz"))
        tables = with_flow(tables, timeout=max(trips_of(tables)))
        self.assertLessEqual(max(trips_of(tables, 0)), 9000)
        for way in ("first", "spare"):
            met = self.met(tables, 9, way)
            self.assertEqual(len(met.run.contents_of("x")), 2)
            self.assertGreater(met.taken, 2400)

    def test_time_outs_far_off(self):
        for tables in cases(9, 8):
            told = with_flow(tables, timeout=10 ** 9)
            if not [loss for link in told.net.links for lane in (link.there, link.back) for loss in [lane.rule] if loss != Total(0)]:
                met = worst_run(told, "x", 6, "spare")
                self.assertTrue(shows_met(told, "x", 6, "spare", met))
        lane = Lane(Round("x", "y", None), 3)
        links = [Link(pair, *pair, lane, lane) for pair in ("az", "ab", "bz")]
        net = Net(list("abz"), links, [Flow("x", "a", "z", 4, 10 ** 9)], SHORT, 4)
        tables = Tables(net).laid("x", "first", ("a", "z")).laid("x", "spare", ("a", "b", "z"))
        met = worst_run(tables, "x", 4, "spare")
        self.assertEqual(met.there - met.taken, 10 ** 9 + 2 * 12)
        self.assertTrue(shows_met(tables, "x", 4, "spare", met))

    def test_letters_ahead_that_take_too_long(self):
        # The answer to the letter ahead of one with the mark 1 takes more than 20,000 ticks, the letter itself not.
        mutes = [Phase(mute=True) for _ in range(3)]
        for many, is_told in ((11, False), (6, True)):
            slow = Lane(Round(*[None] * 23, "x"), 1000, Plan(Phase(), *mutes))
            names = "abcdefghijk"[:many] + "z"
            links = [Link(one + other, one, other, Lane(Round("x")), slow) for one, other in zip(names, names[1:])]
            links.append(Link("az", "a", "z", Lane(Round("x")), Lane(Round("x"))))
            net = Net(list(names), links, [Flow("x", "a", "z", 1, 10 ** 9)], FrameRule("11111111", ("1", "0")), 1)
            tables = Tables(net).laid("x", "first", tuple(names)).laid("x", "spare", ("a", "z"))
            trip = max(trips_of(tables, 0))
            self.assertGreater(trip, 9000)
            for way in ("first", "spare"):
                if is_told:
                    met = worst_run(tables, "x", 1, way)
                    self.assertGreater(met.taken, 8000)
                    self.assertTrue(shows_met(tables, "x", 1, way, met))
                else:
                    self.assertGreater(trip, 20000)
                    self.refused(("TooMany", "ticks", 20000), worst_run, tables, "x", 1, way)

    def test_an_early_tick_that_leaves_room_for_the_losses(self):
        # Some ticks at which the letter ahead has ended leave no room for the losses, but an earlier one does.
        net = read_net(CROWDED)
        tables = Tables(net).laid("x", "first", tuple("abz")).laid("x", "spare", tuple("acz"))
        self.assertEqual(self.met(tables, 28).taken, 34)
        legs = legs_of(tables, "x", "first")
        meeting = Meeting(legs)
        meeting.go_along(legs, legs.cells_at(1, 28), True)
        self.refused(("TooMany", "slots", 400), meeting.tick_by_leaps, 1)
        self.assertEqual(meeting.first_tick(1), 34)
        self.refused(("TooMany", "slots", 400), worst_run, tables, "x", 30)

    def test_lines_of_many_kinds(self):
        chance, found = dealer(13), 0
        ages = [(1,), (2,), (3,), (4,), (1, 2), (2, 3), (1, 3), (1, 4), (3, 4), (1, 2, 3)]
        while found < 120:
            try:
                plan = Plan(*[Phase(*chance.sample(ages, chance.randint(0, 3)), mute=chance.random() < .2) for _ in range(chance.randint(1, 4))])
            except ValueError:
                continue
            rule = chance.choice((Burst(1, 2), Burst(2, 3), Burst(1, 4), Total(2), Total(3)))
            if phase_delays(plan, rule) is None:
                continue
            found += 1
            _, tables = dealt_ways(chance, WAYS[found % 2], 10 ** 6, 3, chance.choice(FRAMES), chance.choice((1, 4)), ((plan, rule),),
                                   ("x", "x - -", "- x - x x", "- - - x"))
            tables = with_flow(tables, timeout=max(trips_at(legs_of(tables, "x", "first"), 3)))
            for way in ("first", "spare"):
                met = worst_run(tables, "x", found % 4, way)
                journey = followed(met.run, tables, "x")[-1]
                self.assertEqual((journey.taken, journey.there), (met.taken, met.there))
                self.assertTrue(shows_met(tables, "x", found % 4, way, met))
            hasty = with_flow(tables, timeout=tables.net.flow_named("x").timeout - 1)
            self.assertTrue(shows_sound(hasty, "x", sound(hasty, "x")))

    def refusing(self, travel, timeout=10 ** 6, links=11):
        """Tables of a way of lanes with this travel, and of a spare one without."""
        slow, plain = Lane(Round("x"), travel), Lane(Round("x"))
        names = "abcdefghijkz"[:links] + "z"
        pairs = [one + other for one, other in zip(names, names[1:])]
        parts = [Link(pair, *pair, slow, plain) for pair in pairs] + [Link("az", "a", "z", plain, plain)]
        net = Net(sorted(set(names)), parts, [Flow("x", "a", "z", 8, timeout)], SHORT, 4)
        return Tables(net).laid("x", "first", tuple(names)).laid("x", "spare", ("a", "z"))

    def test_ticks_that_are_too_many(self):
        tables = self.refusing(1000, links=10)
        many = way_growth(tables, "x")
        self.assertEqual([many(0) > 10000], [True])
        self.refused(("TooMany", "ticks", 20000), worst_run, tables, "x", 0)
        self.assertTrue(shows_met(tables, "x", 0, "first", Met(Run(tables.net, contents={"x": [(3, "")]}), "", 3, 3 + many(0))))
        # At most 10,000 can be told: nine lanes of 1,000, and 100 in each slot.
        tables = self.refusing(998, links=10)
        self.assertEqual([way_growth(tables, "x")(length) for length in (0, 1, 2)], [9990, 10000, 10000])
        self.met(tables, 1)
        self.refused(("TooMany", "ticks", 20000), worst_run, tables, "x", 3)
        # By the spare way only this way counts.
        self.assertEqual(worst_run(self.refusing(1000), "x", 8, "spare").there, 10 ** 6 + 5)

    def test_refused_in_order(self):
        tables = self.refusing(1000, timeout=5)
        for length in (-1, 9, True, "1", None):
            self.refused(("BadNumber", length), worst_run, tables, "x", length)
            self.refused(("BadNumber", length), worst_run, tables, "x", length, "spare")
        for way in ("first", "spare"):
            self.refused(("Clashing", "timeout"), worst_run, tables, "x", 8, way)
            self.refused(("Clashing", "timeout"), shows_met, tables, "x", 8, way, None)
        self.refused(("TooMany", "ticks", 20000), worst_run, self.refusing(1000), "x", 8)
        self.refused(("BadTable", "spare"), worst_run, Tables(tables.net).laid("x", "first", ("a", "z")), "x", -1, "spare")


class HardshipTest(Case):
    """The parts of which worst runs are made."""

    LINES = (("row 1+4 / row 2+3", "losses 0 1 / 2 - / 0 -"), ("row 2+3 3+4 / row 1+4 3", "losses 0 1 / 0 -"), ("row 1+2+3 2+3 3", "losses 0 1 / 2 - / 1 0"),
             ("row / row / mute 1+2", "losses 0 1 / 2 - / 0 -"), ("row 1", "losses 0 1 / 0 -"), ("row", "losses 0 -"), ("row 1 / mute 1 / row", "losses 0 1 / 2 - / 3 - / 0 -"))

    def test_rows_that_are_known_last(self):
        for text, losses in self.LINES:
            plan, rule = Plan.read(text), LossRule.read(losses)
            delays = phase_delays(plan, rule)
            for cells in (1, 2, 3, 4, 5, 9):
                rows = []
                for begin in range(len(plan)):
                    slots = [slot for slot in range(5 * cells + 5) if not plan[begin + slot].mute][:cells]
                    rows += [(begin, slot, (begin + slot) % len(plan)) for slot in slots]
                most = max([slot + 1 + delays[phase] for _, slot, phase in rows])
                self.assertEqual(most, slots_at(plan, rule, cells))
                self.assertEqual(latest_rows(plan, rule, cells), [row for row in rows if row[1] + 1 + delays[row[2]] == most])

    def test_the_least_tick_has_slots_enough_ahead(self):
        needs = set()
        for text, losses in self.LINES:
            for ring in ("x", "- x", "- x x - x", "x - - -", "- - x - x x", "x x x -"):
                lane = Lane(Round.read(ring), 0, Plan.read(text), LossRule.read(losses))
                for cells in (1, 2, 3):
                    hardship = Hardship(lane, "x", cells)
                    place, slots, tick = hardship.place, lane.ring.slots, 0
                    while [slots[(place - back) % len(slots)] for back in range(1, tick + 1)].count("x") < -hardship.ahead:
                        tick += 1
                    self.assertEqual(hardship.least_tick(), tick)
                    self.assertEqual([wait_from(lane.ring, "x", place, many) for many in [slots_at(lane.plan, lane.rule, cells)]],
                                     [wait_at(lane.ring, "x", slots_at(lane.plan, lane.rule, cells))])
                    needs.add(-hardship.ahead)
                    phase, told = hardship.line_at(tick)
                    self.assertTrue(lane.rule.lets(told))
                    self.assertIn(phase, range(len(lane.plan)))
        self.assertGreater(max(needs), 0)


class LookTest(Case):

    def tables(self, timeout=40):
        plain, lossy = Lane(Round("x", "y"), 1), Lane(Round("x", "y"), 1, Plan.copies(1), Burst(1, 1))
        links = [Link(pair, *pair, lossy, plain) for pair in ("ab", "bz", "ac", "cz")]
        net = Net(list("abcz"), links, [Flow("x", "a", "z", 4, timeout), Flow("y", "a", "z", 4, timeout)], SHORT, 4)
        tables = Tables(net)
        for flow in "xy":
            tables = tables.laid(flow, "first", tuple("abz")).laid(flow, "spare", tuple("acz"))
        return tables

    def test_sound_papers(self):
        tables = self.tables()
        right = sound(tables, "x")
        self.assertTrue(right)
        both = trips_of(tables)
        self.assertEqual(both[0], both[1])
        other = Sound(both[1], 1, forth_shares(tables.net, "x", tuple("abz"), 1, 4), back_shares(tables.net, "x", tuple("abz"), 1))
        self.assertTrue(shows_sound(tables, "x", other))
        forth, back = right.forth, right.back
        for wrong in (Sound(right.trip + 1, 0, forth, back), Sound(right.trip - 1, 0, forth, back), Sound(right.trip, 2, forth, back),
                      Sound(right.trip, -1, forth, back), Sound(right.trip, True, forth, back), Sound(right.trip, False, forth, back),
                      Sound(right.trip, None, forth, back), Sound(right.trip, 0, list(forth), back), Sound(right.trip, 0, forth, list(back)),
                      Sound(right.trip, 0, back, forth), Sound(right.trip, 0, forth[:1], back), Sound(right.trip, 0, forth[::-1], back),
                      Sound(right.trip, 0, forth, back[::-1]), Sound(right.trip, 0, (*forth, forth[0]), back),
                      Sound(right.trip, 0, (list(forth[0]), forth[1]), back), Sound(right.trip, 0, (forth[0][:2], forth[1]), back),
                      Sound(right.trip, 0, forth, ((*back[0][:2], back[0][2] + 1), back[1])),
                      Sound(right.trip, 0, forth, ((*back[0][:2], back[0][2] - 1), (*back[1][:2], back[1][2] + 1))),
                      Sound(right.trip, 0, forth, ((back[0][0], True, back[0][2]), back[1])),
                      Alarm(right.trip, Run(tables.net)), Met(Run(tables.net), "", 0, 0)):
            self.assertFalse(shows_sound(tables, "x", wrong))
        self.assertEqual(back[0][1], 1)
        for value in any_values():
            self.assertIs(shows_sound(tables, "x", value), False)
            self.assertFalse(shows_sound(tables, "x", Sound(value, value, value, value)))
            self.assertFalse(shows_sound(tables, "x", Sound(right.trip, 0, value, back)))
            self.assertFalse(shows_sound(tables, "x", Sound(right.trip, 0, forth, (value, value))))
            self.assertFalse(shows_sound(tables, "x", Alarm(right.trip, value)))
        self.assertIs(shows_sound(value=right, flow="x", tables=tables), True)
        hasty = self.tables(right.trip - 1)
        self.assertFalse(shows_sound(hasty, "x", right))

    def test_marks_that_have_it_not(self):
        for tables in cases(12, 16):
            trips = trips_of(tables)
            for mark in (0, 1):
                houses = houses_on(tables, "first")
                paper = Sound(trips[mark], mark, forth_shares(tables.net, "x", houses, mark, 6), back_shares(tables.net, "x", houses, mark))
                self.assertEqual(shows_sound(tables, "x", paper), trips[mark] == max(trips))
                paper.trip = max(trips)
                self.assertEqual(shows_sound(tables, "x", paper), trips[mark] == max(trips))

    def test_alarms(self):
        tables = self.tables(20)
        right = sound(tables, "x")
        run, trip = right.run, right.trip
        self.assertFalse(right)
        self.assertIs(shows_sound(tables, "x", right), True)
        calm = Run(tables.net, contents={"x": [(0, "0101")]})
        for wrong in (Alarm(trip + 1, run), Alarm(trip - 1, run), Alarm(True, run), Alarm(str(trip), run), Alarm(trip, None),
                      Alarm(trip, calm), Alarm(trip, run.with_contents("x", ())), Alarm(trip, run.with_fall(Fall(0, "ab"))),
                      Alarm(trip, run.with_fall(Fall(20000, "ab"))), Alarm(trip, run.with_contents("x", [(0, "")])),
                      Alarm(trip, run.on_net(self.tables(21).net)), Alarm(trip, Met(run, "", 0, 0))):
            self.assertFalse(shows_sound(tables, "x", wrong))
        for value in any_values():
            self.assertIs(shows_sound(tables, "x", Alarm(value, run)), False)
            self.assertIs(shows_sound(tables, "x", Alarm(trip, value)), False)
        # Any run with a time-out does: letters behind it, of another flow, later ones; but none that is taken up too late.
        told = run.contents_of("x")
        later = [(tick + 2, letter) for tick, letter in told]
        for other in (run.with_contents("x", [*told, (9999, "")]), run.with_contents("y", [(0, "0")]), run.with_contents("x", later)):
            self.assertTrue(shows_sound(tables, "x", Alarm(trip, other)))
        self.assertFalse(shows_sound(tables, "x", Alarm(trip, run.with_contents("x", [*told, (10000, "")]))))
        self.assertFalse(shows_sound(tables, "y", right))

    def test_mets_by_the_first_way(self):
        tables = self.tables()
        right = worst_run(tables, "x", 4)
        run, letter, taken, there = right.run, right.letter, right.taken, right.there
        told = run.contents_of("x")
        self.assertTrue(shows_met(tables, "x", 4, "first", right))
        self.assertIs(shows_met(value=right, way="first", length=4, flow="x", tables=tables), True)
        lines = list(run.told_lines())
        less = [line for line in lines if run.losses_of(line)][0]
        wrongs = [Met(run, letter[:-1], taken, there), Met(run, "0" * 4, taken, there), Met(run, letter, taken + 1, there + 1),
                  Met(run, letter, taken, there + 1), Met(run, letter, taken, there - 1), Met(run, None, taken, there),
                  Met(run, letter, None, None), Met(run, tuple(letter), taken, there), Met(run.with_contents("x", []), letter, taken, there),
                  Met(run.with_contents("x", [*told, (9000, "")]), letter, taken, there),
                  Met(run.with_contents("x", [(0, ""), *told]), letter, taken, there),
                  Met(run.with_contents("x", [(0, ""), (0, ""), *told]), letter, taken, there),
                  Met(run.with_fall(Fall(20000, "ac")), letter, taken, there), Met(run.with_fall(Fall(taken, "ab")), letter, taken, there),
                  Met(run.with_line(less, run.phase_of(less), run.losses_of(less).replace("x", ".")), letter, taken, there),
                  Met(run.with_line(less, run.phase_of(less), "." + run.losses_of(less)), letter, taken, there),
                  Met(run.with_place(less[:2], 1 - run.place_of(less[:2])), letter, taken, there),
                  Met(run.on_net(self.tables(41).net), letter, taken, there), Met(None, letter, taken, there)]
        for at, wrong in enumerate(wrongs):
            self.assertFalse(shows_met(tables, "x", 4, "first", wrong), at)
        self.assertFalse(shows_met(tables, "x", 3, "first", right))
        self.assertFalse(shows_met(tables, "x", 4, "spare", right))
        self.assertFalse(shows_met(tables, "y", 4, "first", right))
        for value in any_values():
            for wrong in (value, Met(value, letter, taken, there), Met(run, value, taken, there), Met(run, letter, value, there),
                          Met(run, letter, taken, value), Met(value, value, value, value)):
                self.assertIs(shows_met(tables, "x", 4, "first", wrong), False)
        self.assertFalse(shows_met(tables, "x", 4, "first", sound(tables, "x")))

    def shifted(self, run, ticks, flow="x"):
        """A run in which all of a flow comes so many rounds of two ticks later."""
        other = run
        for line in run.told_lines():
            if run.losses_of(line):
                other = other.with_line(line, 0, "." * (ticks // 2) + run.losses_of(line))
        return other.with_contents(flow, [(tick + ticks, letter) for tick, letter in run.contents_of(flow)])

    def test_other_runs_that_meet_it_as_well(self):
        tables = self.tables()
        right = worst_run(tables, "x", 4)
        self.assertEqual(len(right.run.contents_of("x")), 1)
        for ticks in (2, 10, 300):
            other = self.shifted(right.run, ticks)
            self.assertTrue(shows_met(tables, "x", 4, "first", Met(other, right.letter, right.taken + ticks, right.there + ticks)))
        other = right.run.with_contents("y", [(0, "0101")]).with_line(("ab", "b", "y"), 0, "")
        self.assertTrue(shows_met(tables, "x", 4, "first", Met(other, right.letter, right.taken, right.there)))
        # Both marks are as long, so a letter ahead plays no part, if it has ended.
        ahead = self.shifted(right.run, 200)
        contents = ahead.contents_of("x")
        other = ahead.with_contents("x", [(0, "01"), (contents[0][0], "0101")])
        self.assertTrue(shows_met(tables, "x", 4, "first", Met(other, "0101", right.taken + 200, right.there + 200)))
        many = ahead.with_contents("x", [(0, ""), (40, ""), (contents[0][0], "0101")])
        self.assertFalse(shows_met(tables, "x", 4, "first", Met(many, "0101", right.taken + 200, right.there + 200)))

    def test_letters_that_are_taken_up_when_the_one_ahead_ends(self):
        lane = Lane(Round("x"))
        links = [Link(pair, *pair, lane, lane) for pair in ("az", "ab", "bz")]
        net = Net(list("abz"), links, [Flow("x", "a", "z", 4, 40)], SHORT, 4)
        tables = Tables(net).laid("x", "first", ("a", "z")).laid("x", "spare", ("a", "b", "z"))
        # The letter ahead ends at 2; the next one has two cells.
        for tick, is_right in ((0, False), (2, False), (3, True), (9999, True), (10000, False)):
            taken = max(2, tick)
            run = Run(net, contents={"x": [(0, ""), (tick, "1")]})
            self.assertEqual(followed(run, tables, "x")[1].taken, taken)
            self.assertIs(shows_met(tables, "x", 1, "first", Met(run, "1", taken, taken + 2)), is_right)

    def short(self, travels=(0, 0), timeout=10 ** 5, size=32):
        """Tables of a first way of lanes with these travels, in turns there and back; of the size 32 each letter is one cell."""
        names = "abcdefghijk"[:len(travels) // 2] + "z"
        links = [Link(one + other, one, other, Lane(Round("x"), there), Lane(Round("x"), back))
                 for one, other, there, back in zip(names, names[1:], travels[::2], travels[1::2])]
        links += [Link("aq", "a", "q", Lane(Round("x")), Lane(Round("x"))), Link("qz", "q", "z", Lane(Round("x")), Lane(Round("x")))]
        net = Net([*names, "q"], links, [Flow("x", "a", "z", 4, timeout)], SHORT, size)
        return Tables(net).laid("x", "first", tuple(names)).laid("x", "spare", tuple("aqz"))

    def test_kinds_of_ticks(self):
        tables = self.short()
        run = Run(tables.net, contents={"x": [(0, "")]})
        self.assertTrue(shows_met(tables, "x", 0, "first", Met(run, "", 0, 1)))
        for taken, there in ((False, 1), (0, True), (False, True)):
            self.assertFalse(shows_met(tables, "x", 0, "first", Met(run, "", taken, there)))
        right = sound(tables, "x")
        self.assertEqual(right, Sound(2, 0, (("az", 1, 1),), (("az", 1, 1),)))
        self.assertTrue(shows_sound(tables, "x", right))
        for share in (("az", True, 1), ("az", 1, True)):
            self.assertFalse(shows_sound(tables, "x", Sound(2, 0, (share,), right.back)))
            self.assertFalse(shows_sound(tables, "x", Sound(2, 0, right.forth, (share,))))

    def test_runs_that_are_not_the_worst(self):
        lane = Lane(Round("x", None, None))
        links = [Link(pair, *pair, lane, lane) for pair in ("az", "ab", "bz")]
        net = Net(list("abz"), links, [Flow("x", "a", "z", 4, 400)], SHORT, 32)
        tables = Tables(net).laid("x", "first", ("a", "z")).laid("x", "spare", tuple("abz"))
        for tick, there in ((5, 7), (6, 7), (4, 7)):
            run = Run(net, contents={"x": [(tick, "")]})
            self.assertEqual(followed(run, tables, "x")[0].there, there)
            for taken in range(9):
                self.assertEqual(shows_met(tables, "x", 0, "first", Met(run, "", taken, there)), tick == taken == 4)

    def test_how_late_letters_can_be_taken_up(self):
        for travels, trip in (([899] * 10, 9000), ([899] * 9 + [900], 9001)):
            tables = self.short(travels)
            self.assertEqual(sound(tables, "x").trip, trip)
            for tick, is_right in ((9999, True), (10000, trip > 9000), (20000, trip > 9000)):
                run = Run(tables.net, contents={"x": [(tick, "01")]})
                self.assertEqual(shows_met(tables, "x", 2, "first", Met(run, "01", tick, tick + 4500)), is_right)
            hasty = self.short(travels, trip - 1)
            for tick, is_right in ((9999, True), (10000, trip > 9000), (20000, trip > 9000)):
                run = Run(hasty.net, contents={"x": [(tick, "01")]})
                self.assertEqual(shows_sound(hasty, "x", Alarm(trip, run)), is_right)

    def test_only_the_empty_letter_counts_for_that(self):
        # Of the size 4 the empty letter is one cell, and one bit makes two.
        tables = self.short([899] * 10, size=4)
        self.assertEqual([round_trip(tables, "x")(length) for length in (0, 1)], [9000, 9005])
        for tick in (9999, 10000):
            run = Run(tables.net, contents={"x": [(tick, "")]})
            self.assertEqual(shows_met(tables, "x", 0, "first", Met(run, "", tick, tick + 4500)), tick == 9999)

    def test_just_10000_ticks(self):
        for travel, many in ((990, 10000), (991, 10001)):
            tables = self.short([1000, 0] * 9 + [travel, 0])
            self.assertEqual(greatest_delay(tables, "x", 3), many)
            if many == 10000:
                self.assertEqual(worst_run(tables, "x", 3).there, 10000)
            else:
                self.refused(("TooMany", "ticks", 20000), worst_run, tables, "x", 3)

    def test_mets_by_the_spare_way(self):
        tables = self.tables()
        right = worst_run(tables, "x", 4, "spare")
        run, letter, taken, there = right.run, right.letter, right.taken, right.there
        self.assertTrue(shows_met(tables, "x", 4, "spare", right))
        for name in ("ab", "bz", "b"):
            self.assertTrue(shows_met(tables, "x", 4, "spare", Met(run.with_fall(Fall(taken, name)), letter, taken, there)))
        for fall in (None, Fall(taken, "ac"), Fall(taken, "c"), Fall(taken + 1, "ab"), Fall(0, "ab") if taken else None):
            self.assertFalse(shows_met(tables, "x", 4, "spare", Met(run.with_fall(fall), letter, taken, there)))
        self.assertFalse(shows_met(tables, "x", 4, "first", right))
        self.assertFalse(shows_met(tables, "x", 4, "spare", worst_run(tables, "x", 4)))
        self.assertFalse(shows_met(tables, "x", 4, "spare", Met(run, letter, taken, there - 1)))
