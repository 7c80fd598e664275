"""Players: event by event against plays of the test itself, and what can be taken back."""

from layerpost.errors import BadLetter, PostError
from layerpost.events import Event
from layerpost.exchange import Bench
from layerpost.losses import Burst, MachineRule, Total
from layerpost.marks import Receiver, Sender
from layerpost.nets import Flow, Lane, Link, Net
from layerpost.parcels import Letter, Log, Parcel, Post
from layerpost.plans import Phase, Plan
from layerpost.player import Player
from layerpost.rounds import Round
from layerpost.runs import Fall, Run
from layerpost.tables import Tables
from layerpost.verdicts import Verdict
from tests.helpers import Case, any_values, dealer, error_of, some_signs
from tests.plays import SlowPlay, plain, told_state
from tests.test_frames import HDLC, SHORT
from tests.test_letters import let_losses

LINES = ((Plan.plain(), Total(0)), (Plan.copies(1), Burst(1, 1)), (Plan.groups(2), Burst(1, 2)), (Plan.copies(1, 2), Burst(2, 2)),
         (Plan(Phase((1, 2), (3,)), Phase((2,))), Burst(1, 3)))
LOSSY = (*LINES, (Plan.plain(), Total(2)), (Plan.copies(1), MachineRule((0, 0))), (Plan.groups(2), Total(4)))
RINGS = ("x", "x y", "y x", "x - y", "x x y -", "- y x", "y - x x", "x y z")
# Three houses, or four; flows x and y, either way.
SHAPES = (("ab bc ac", (("x", "a", "c"),)), ("ab bc ac", (("x", "a", "c"), ("y", "a", "c"))),
          ("ab bc ac", (("x", "a", "c"), ("y", "c", "a"))), ("ac ab bc", (("y", "c", "a"), ("x", "c", "a"))),
          ("ab bd ac cd", (("x", "a", "d"), ("y", "d", "a"))), ("cd ab bd ac ad bc", (("y", "a", "d"), ("x", "d", "a"))),
          ("ab bd ac cd ad", (("x", "a", "d"), ("y", "b", "c"))))


def dealt_play(chance, lines=LINES, timeouts=(15, 40, 200), shape=None, rings=RINGS):
    """A net of a shape by chance, with tables of ways that are apart, and a run by chance."""
    pairs, flows = shape or chance.choice(SHAPES)
    def lane():
        plan, rule = chance.choice(lines)
        slots = chance.choice(rings)
        return Lane(Round.read(slots if len(flows) > 1 else slots.replace("y", "-")), chance.choice((0, 0, 1, 3)), plan, rule)
    while True:
        links = [Link(pair, *chance.choice((pair, pair[::-1])), lane(), lane()) for pair in pairs.split()]
        told = [Flow(*flow, 5, chance.choice(timeouts)) for flow in flows]
        net = Net(sorted(set(pairs) - {" "}), links, told, chance.choice((SHORT, HDLC)), chance.choice((1, 3, 4, 8)))
        if error_of(Tables.of, net) is None:
            return net, dealt_run(net, chance)


def dealt_run(net, chance, fall=None, many=4):
    """A run by chance: places, phases, losses, letters."""
    lanes = {(link.name, house): link.lane_from(house) for link in net.links for house in (link.one, link.other)}
    lines = {(*key, flow.name): lane for key, lane in lanes.items() for flow in net.flows if flow.name in lane.ring}
    contents = {flow.name: sorted([(chance.choice((0, 0, 4, 20, 21, 60)), some_signs(chance, 0, 5)) for _ in range(many)],
                                  key=lambda pair: pair[0]) for flow in net.flows}
    return Run(net, {key: chance.randrange(len(lane.ring)) for key, lane in lanes.items()},
               {key: chance.randrange(len(lane.plan)) for key, lane in lines.items()},
               {key: let_losses(chance, lane.rule, chance.choice((0, 6, 40))) for key, lane in lines.items()}, contents, fall)


def small_net(timeout=12, most=4):
    """The net of the document's example."""
    lane = Lane(Round("a"), 1)
    links = [Link("xy", "x", "y", lane, lane), Link("xz", "x", "z", lane, lane), Link("zy", "z", "y", lane, lane)]
    return Net(["x", "y", "z"], links, [Flow("a", "x", "y", most, timeout)], SHORT, 4)


class PlayCase(Case):

    def compare(self, run, tables=None, ticks=150, sends=()):
        """A player and a play of the test tell the same, tick by tick; sends are told by their ticks."""
        told = Tables.of(run.net) if tables is None else tables
        slow, player, words = SlowPlay(run, told), Player(run, tables), set()
        for tick in range(ticks):
            for at, flow, letter in sends:
                if at == tick:
                    player.send(flow, letter)
                    slow.queue[flow].append((tick, letter))
            self.assertEqual(player.clock, tick)
            events = player.advance()
            self.assertIsInstance(events, tuple)
            self.assertEqual([plain(event) for event in events], slow.tick())
            self.assertEqual(told_state(player, run.net), slow.state())
            self.assertIs(player.is_idle, slow.is_idle())
            words |= {event.word for event in events}
            if player.is_idle and run.fall is None:
                break
        self.assertEqual([plain(event) for event in player.events()], slow.events)
        return player, words


class PlayTest(PlayCase):

    def test_runs_by_chance(self):
        chance, words = dealer(1), set()
        for _ in range(60):
            net, run = dealt_play(chance)
            words |= self.compare(run)[1]
        self.assertLessEqual({"came", "back", "handed", "known", "ended", "stale", "changed", "taken"}, words)

    def test_lines_on_which_rows_stay_unknown(self):
        chance, words = dealer(2), set()
        for _ in range(50):
            net, run = dealt_play(chance, LOSSY, (9, 15, 40))
            words |= self.compare(run, ticks=100)[1]
        self.assertLessEqual({"changed", "known", "stale"}, words)

    def test_a_fall_of_each_thing_at_each_tick(self):
        chance, words, gone = dealer(3), set(), 0
        for shape, rings in ((SHAPES[0], ("x", "x -")), (SHAPES[4], ("x y", "y x x", "y x")), (SHAPES[2], ("x y", "x y z"))):
            net, run = dealt_play(chance, LINES[:3], (14, 60), shape, rings)
            ends = {house for flow in net.flows for house in (flow.begin, flow.end)}
            names = [*[link.name for link in net.links], *[house for house in net.houses if house not in ends]]
            for at, name in enumerate(names):
                for tick in range(at % 2, 66, 2):
                    player, seen = self.compare(run.with_fall(Fall(tick, name)), ticks=110)
                    gone += len([event for event in player.events() if event.word == "gone"]) > 1
                    words |= seen
        self.assertIn("gone", words)
        self.assertGreater(gone, 10)

    def test_falls_by_chance(self):
        chance = dealer(4)
        for _ in range(50):
            net, run = dealt_play(chance, timeouts=(7, 12, 25))
            ends = {house for flow in net.flows for house in (flow.begin, flow.end)}
            names = [*[link.name for link in net.links], *[house for house in net.houses if house not in ends]]
            self.compare(run.with_fall(Fall(chance.randint(0, 70), chance.choice(names))), ticks=110)

    def test_late_copies(self):
        # Time-outs that are too short: copies and answers of both ways come in, in all orders.
        chance, words = dealer(5), set()
        for _ in range(50):
            net, run = dealt_play(chance, timeouts=(1, 2, 4, 6, 8))
            words |= self.compare(run)[1]
        self.assertLessEqual({"known", "stale"}, words)

    def test_letters_that_are_sent(self):
        chance = dealer(6)
        for _ in range(40):
            net, run = dealt_play(chance)
            sends = [(chance.randint(0, 80), chance.choice(net.flows).name, some_signs(chance, 0, 5)) for _ in range(6)]
            self.compare(run, sends=sends)
            self.compare(Run(net), sends=sends, ticks=200)

    def test_tables_that_do_not_lead(self):
        chance, waits = dealer(7), 0
        for _ in range(40):
            net, run = dealt_play(chance, timeouts=(10, 30))
            rows = {(house, flow.name, way): chance.choice(net.near(house)) for house in net.houses for flow in net.flows
                    for way in ("first", "spare") if chance.random() < .75}
            player, _ = self.compare(run, Tables(net, rows), ticks=90)
            waits += not player.is_idle
            ends = {house for flow in net.flows for house in (flow.begin, flow.end)}
            names = [*[link.name for link in net.links], *[house for house in net.houses if house not in ends]]
            self.compare(run.with_fall(Fall(chance.randint(0, 40), chance.choice(names))), Tables(net, rows), ticks=90)
        self.assertGreater(waits, 20)

    def test_lanes_without_own_slots(self):
        chance = dealer(8)
        for _ in range(22):
            net, run = dealt_play(chance)
            link = chance.choice(net.links)
            for lanes in ((Lane(Round("z")), link.back), (link.there, Lane(Round("z", None)))):
                other = net | Link(link.name, link.one, link.other, *lanes)
                run_there = dealt_run(other, chance)
                tables = Tables(other, dict(Tables.of(net)))
                self.compare(run_there, tables, ticks=80)
                self.compare(run_there.with_fall(Fall(chance.randint(0, 30), link.name)), tables, ticks=80)

    def test_by_many_ticks_at_once(self):
        chance = dealer(9)
        for _ in range(30):
            net, run = dealt_play(chance, timeouts=(8, 50))
            one, other = Player(run), Player(run)
            for _ in range(12):
                many = chance.randint(0, 17)
                self.assertIsNone(one.go(many))
                for _ in range(many):
                    other.advance()
                self.assertEqual(one, other)
                self.assertEqual([plain(event) for event in one.events()], [plain(event) for event in other.events()])
                self.assertEqual(told_state(one, net), told_state(other, net))
            self.assertEqual(one.deeds, 12)

    def test_the_tables_of_each_flow(self):
        chance = dealer(10)
        for _ in range(10):
            net, run = dealt_play(chance)
            self.assertEqual(Player(run), Player(tables=Tables.of(net), run=run))
            self.assertEqual(Player(run, None), Player(run))

    def test_by_hand(self):
        run = Run(small_net(), contents={"a": [(0, ""), (0, "01")]})
        player = Player(run)
        self.assertEqual([str(event) for event in player.advance()], ["0 taken a x 0"])
        self.assertEqual(player.advance(), ())
        self.assertEqual(player.places_of("a"), ((0, 0, "x"),))
        self.assertEqual(player.advance(), (Event(2, "handed", "a", "y", 0),))
        self.assertEqual((player.handed("a"), player.ticks_of("a"), player.waiting("a")), (("",), (2,), ("01",)))
        self.assertEqual(player.places_of("a"), ((1, 0, "y"),))
        self.assertFalse(player.is_idle)
        player.go(20)
        self.assertTrue(player.is_idle)
        self.assertEqual((player.clock, player.handed("a"), player.places_of("a")), (23, ("", "01"), ()))

    def test_gone_at_once_is_told_behind_what_made_it_ready(self):
        run = Run(small_net(), contents={"a": [(3, "01")]}, fall=Fall(1, "xy"))
        player = Player(run)
        player.go(20)
        self.assertEqual([str(event) for event in player.events()],
                         ["1 fell - xy -", "3 taken a x 0", "3 gone a xy 0", "15 changed a x 0", "18 came a z 0"])
        run = Run(small_net(3), contents={"a": [(0, "01"), (0, "")]}, fall=Fall(3, "z"))
        player = Player(run)
        player.go(20)
        self.assertEqual([str(event) for event in player.events()],
                         ["0 taken a x 0", "3 fell - z -", "3 handed a y 0", "3 changed a x 0", "3 gone a z 0", "5 ended a x 0",
                          "5 taken a x 1", "5 gone a z 1"])

    def test_two_that_come_in_at_one_tick(self):
        # Both flows have all slots, so both come in at 2: in the order of the links, then of the flows.
        lane = Lane(Round("a", "b"), 1)
        links = [Link(name, *name, lane, lane) for name in ("xy", "xz", "zy")]
        for flows in (("a", "b"), ("b", "a")):
            net = Net(list("xyz"), links, [Flow(name, "x", "y", 4, 99) for name in flows], SHORT, 4)
            run = Run(net, contents={"a": [(0, ""), (0, "")], "b": [(0, ""), (0, "")]})
            player, _ = self.compare(run)
            taken = [event.flow for event in player.events() if event.tick == 0]
            self.assertEqual(taken, list(flows))


class EventTest(Case):

    def test_papers(self):
        for value in any_values():
            told = (value, "taken", value, "x", value)
            event = Event(*told)
            self.assertEqual(plain(event), told)
            self.assertEqual(event, Event(mark=value, name="x", flow=value, word="taken", tick=value))
            for at in range(5):
                self.assertNotEqual(event, Event(*[("no",) if at == place else part for place, part in enumerate(told)]))
        self.assertNotEqual(Event(1, 2, 3, 4, 5), (1, 2, 3, 4, 5))
        self.assertFalse(issubclass(Event, Verdict))
        self.assertEqual(str(Event(5, "fell", None, "xy", None)), "5 fell - xy -")
        self.assertEqual(str(Event(0, "gone", "a", "z", 1)), "0 gone a z 1")
        self.assertEqual(str(Event(None, None, None, None, None)), "- - - - -")
        self.assertEqual(Event(1, "taken", "a", "x", 0), Event(1, "taken", "a", "x", 0))


class RefusedTest(PlayCase):

    def test_runs_and_tables(self):
        net = small_net()
        for value in any_values():
            self.refused(("BadRun", "run"), Player, value, value)
            if value is not None:
                self.refused(("BadTable", "tables"), Player, Run(net), value)
        self.refused(("BadTable", "tables"), Player, Run(net), Tables.of(small_net(13)))
        self.refused(("BadTable", "tables"), Player, Run(net - "xz"), Tables.of(net))
        self.refused(("Clashing", "a"), Player, Run(net - "xz"))
        self.assertIsInstance(Player(Run(net - "xz"), Tables(net - "xz")), Player)
        self.assertEqual(Player(Run(net - "xz"), Tables(net - "xz")).twin().clock, 0)

    def test_calls(self):
        net = small_net()
        player = Player(Run(net, contents={"a": [(0, "01")]}))
        player.go(1)
        player.send("a", "1")
        before = player.twin()
        asks = (player.handed, player.ticks_of, player.waiting, player.way_of, player.hue_of, player.places_of)
        for value in any_values():
            self.refused(("NoFlow", value), player.send, value, value)
            self.refused(("BadLetter", value), player.send, "a", value)
            for ask in asks:
                self.refused(("NoFlow", value), ask, value)
            self.refused(("BadTable", "tables"), player.offer, value)
            self.refused(("NoHouse", value), player.give, value)
            self.refused(("NoFlow", value), player.turn, value)
            self.refused(("NoHouse", value), player.drop, value)
            if value != 10 ** 40 + 1:
                self.refused(("BadNumber", value), player.go, value)
        self.refused(("NoFlow", "x"), player.send, "x", "1" * 201)
        self.refused(("BadLetter", "1" * 201), player.send, "a", "1" * 201)
        self.refused(("TooMany", "signs", 4), player.send, "a", "1" * 5)
        self.refused(("TooMany", "ticks", 20000), player.go, 10 ** 40 + 1)
        self.refused(("Clashing", "give"), player.give, "x")
        self.refused(("Clashing", "drop"), player.drop, "x")
        self.refused(("Clashing", "turn"), player.turn, "a")
        self.assertEqual(player, before)
        self.assertEqual(player.deeds, 2)

    def test_the_bound_of_ticks(self):
        player = Player(Run(small_net(), contents={"a": [(19990, "1"), (19998, "0")]}))
        self.refused(("TooMany", "ticks", 20000), player.go, 20001)
        player.go(19999)
        self.refused(("TooMany", "ticks", 20000), player.go, 2)
        player.advance()
        self.assertEqual(player.clock, 20000)
        self.assertEqual(player.handed("a"), ("1",))
        self.refused(("TooMany", "ticks", 20000), player.advance)
        self.refused(("TooMany", "ticks", 20000), player.go, 1)
        player.go(0)
        self.assertEqual((player.clock, player.deeds), (20000, 3))
        self.assertEqual([player.undo(), player.undo(), player.undo(), player.clock], ["go", "advance", "go", 0])

    def test_the_bound_of_letters(self):
        for ahead in (0, 40):
            player = Player(Run(small_net(), contents={"a": [(9000, "0")] * ahead}))
            for _ in range(100 - ahead):
                player.send("a", "1")
            self.refused(("TooMany", "letters", 100), player.send, "a", "1")
            self.refused(("TooMany", "signs", 4), player.send, "a", "1" * 9)
            self.assertEqual(len(player.waiting("a")), 100)
        player = Player(Run(small_net()))
        for _ in range(100):
            player.send(letter="1", flow="a")
        player.advance()
        player.send("a", "1")
        self.refused(("TooMany", "letters", 100), player.send, "a", "1")

    def test_send_puts_a_letter_behind_later_ticks(self):
        player = Player(Run(small_net(), contents={"a": [(0, "0"), (30, "1")]}))
        player.send("a", "00")
        player.go(29)
        self.assertEqual((player.handed("a"), player.waiting("a"), player.is_idle), (("0",), ("1", "00"), False))
        player.go(40)
        self.assertEqual((player.handed("a"), player.is_idle), (("0", "1", "00"), True))


class UndoTest(PlayCase):

    def deeds(self, chance, player, net):
        """A deed by chance: its word, and the work."""
        other = Tables.of(net) | Tables(net)
        choices = [("advance", lambda one: one.advance()), ("go", lambda one, many=chance.randint(0, 6): one.go(many)),
                   ("send", lambda one, flow=chance.choice(net.flows).name: one.send(flow, "01")),
                   ("offer", lambda one: one.offer(other)), ("give", lambda one, at=chance.choice(net.houses): one.give(at)),
                   ("turn", lambda one, flow=chance.choice(net.flows).name: one.turn(flow)),
                   ("drop", lambda one, at=chance.choice(net.houses): one.drop(at))]
        return chance.choice(choices)

    def test_back_through_all_states_and_forth_again(self):
        chance, seen = dealer(11), set()
        for _ in range(16):
            net, run = dealt_play(chance, timeouts=(9, 30))
            player, done = Player(run), []
            states = [player.twin()]
            for _ in range(80):
                word, work = self.deeds(chance, player, net)
                if error_of(work, player) is None:
                    done.append((word, work))
                    states.append(player.twin())
                self.assertEqual(player, states[-1])
                self.assertEqual(player.deeds, len(done))
            seen |= {word for word, _ in done}
            for word, _ in done[::-1]:
                self.assertEqual(player, states[len(states) - 1])
                self.assertEqual(told_state(player, net), told_state(states.pop(), net))
                self.assertEqual(player.undo(), word)
            self.assertEqual((player, player.deeds), (Player(run), 0))
            self.refused(("Nothing",), player.undo)
            again, behind = Player(run), Player(run)
            for _, work in done:
                work(player)
                work(again)
                self.assertEqual(player, again)
            player.undo()
            done[-1][1](player)
            self.assertEqual(player, again)
        self.assertEqual(seen, {"advance", "go", "send", "offer", "give", "turn", "drop"})

    def test_trials(self):
        run = Run(small_net(), contents={"a": [(0, "01"), (9, "")]})
        player = Player(run)
        player.go(3)
        player.send("a", "1")
        before = player.twin()
        block = player.trial()
        # A trial begins as its block is entered.
        player.go(2)
        later = player.twin()
        with block as same:
            self.assertIs(same, player)
            player.go(5)
            with player.trial() as inner:
                self.assertIs(inner, player)
                self.assertEqual([player.undo(), player.undo(), player.undo(), player.undo()], ["go", "go", "send", "go"])
                self.assertEqual((player.clock, player.deeds), (0, 0))
                player.go(50)
            self.assertEqual((player.clock, player.deeds), (10, 4))
        self.assertEqual((player, player.deeds), (later, 3))
        self.assertEqual([player.undo(), player], ["go", before])
        with self.assertRaises(BadLetter) as caught:
            with player.trial():
                player.go(5)
                player.undo()
                player.undo()
                player.send("a", "no letter")
        self.assertEqual(caught.exception.value, "no letter")
        self.assertEqual((player, player.deeds), (before, 2))
        with self.assertRaises(ZeroDivisionError):
            with player.trial():
                player.go(1 // (player.clock - 3))
        self.assertEqual((player, player.deeds), (before, 2))

    def test_one_block_within_itself(self):
        player = Player(Run(small_net()))
        block = player.trial()
        with block:
            player.go(1)
            with block:
                player.go(7)
            self.assertEqual(player.clock, 1)
        self.assertEqual((player.clock, player.deeds), (0, 0))
        with block:
            player.go(3)
        self.assertEqual(player.clock, 0)

    def test_tried_and_attempt(self):
        player = Player(Run(small_net(), contents={"a": [(0, "01")]}))
        player.go(1)
        before = player.twin()
        self.assertEqual(player.tried(lambda same: [same is player, same.go(9), same.handed("a"), same.deeds]), [True, None, ("01",), 2])
        self.assertEqual((player, player.deeds), (before, 1))
        self.refused(("TooMany", "ticks", 20000), player.tried, lambda same: [same.undo(), same.go(4), same.go(10 ** 9)])
        self.assertEqual((player, player.deeds), (before, 1))
        self.refused(("TooMany", "ticks", 20000), player.attempt, lambda same: [same.undo(), same.go(4), same.go(10 ** 9)])
        self.assertEqual((player, player.deeds), (before, 1))
        self.assertRaises(KeyError, player.attempt, lambda same: [same.go(4), {}["no"]])
        self.assertEqual((player, player.deeds), (before, 1))
        self.assertEqual(player.attempt(lambda same: [same is player, same.go(9), same.send("a", ""), same.deeds]), [True, None, None, 3])
        self.assertEqual((player.clock, player.deeds, player.handed("a")), (10, 3, ("01",)))
        self.assertEqual([player.undo(), player.undo(), player == before, player.undo()], ["send", "go", True, "go"])
        self.assertEqual(player.attempt(lambda same: same.attempt(lambda one: one.go(3))), None)
        self.refused(("Nothing",), player.attempt, lambda same: [same.undo(), same.undo()])
        self.assertEqual((player.clock, player.deeds), (3, 1))

    def test_twins(self):
        chance = dealer(12)
        for _ in range(10):
            net, run = dealt_play(chance)
            player = Player(run)
            player.go(chance.randint(0, 40))
            twin = player.twin()
            self.assertEqual((twin, twin.deeds), (player, 0))
            self.assertIsNot(twin, player)
            self.refused(("Nothing",), twin.undo)
            many = len(list(player.events()))
            for _ in range(20):
                player.advance()
            flow = net.flows[0].name
            twin.send(flow, "1")
            twin.go(20)
            # Each has its own events behind those that they share.
            other = Player(run)
            other.go(player.clock)
            self.assertEqual(player, other)
            self.assertEqual(list(player.events())[:many], list(twin.events())[:many])
            self.assertEqual(list(player.events()), list(other.events()))
            self.assertNotEqual(twin, player)


class EqualTest(PlayCase):

    def test_unlike_in_one_thing(self):
        net = small_net()
        run = Run(net, contents={"a": [(0, "01"), (4, "1")]})
        tables = Tables.of(net)
        other = tables.laid("a", "first", ("x", "z", "y"))
        def player(told=run, by=tables, *works):
            one = Player(told, by)
            for work in works:
                work(one)
            return one
        alike = [player(), player(), player(run, tables, lambda one: one.go(0)), player(run, tables, lambda one: [one.go(3), one.undo()])]
        for one in alike:
            self.assertEqual(one, alike[0])
        unlike = [player(), player(run.with_place(("xy", "x"), 0).with_fall(Fall(9, "z"))), player(run, other),
                  player(run.with_contents("a", [(0, "01"), (5, "1")])), player(run.with_contents("a", [(0, "01"), (4, "0")])),
                  player(run, tables, lambda one: one.go(1)), player(run, tables, lambda one: one.go(2)),
                  player(run, tables, lambda one: one.send("a", "")), player(run, tables, lambda one: one.send("a", "0")),
                  player(run, tables, lambda one: one.offer(tables)), player(run, tables, lambda one: one.offer(other)),
                  player(run, tables, lambda one: [one.offer(tables), one.give("x")]),
                  player(run, tables, lambda one: [one.offer(tables), one.give("z")]),
                  player(run, tables, lambda one: [one.offer(tables), [one.give(house) for house in "xyz"]]),
                  player(run, tables, lambda one: [one.offer(tables), [one.give(house) for house in "xyz"], one.turn("a")]),
                  player(run, tables, lambda one: [one.offer(tables), [one.give(house) for house in "xyz"], one.turn("a"), one.drop("x")]),
                  player(run, tables, lambda one: [one.offer(tables), [one.give(house) for house in "xyz"], one.turn("a"), one.drop("y")]),
                  player(Run(small_net(13), contents={"a": [(0, "01"), (4, "1")]}), None)]
        for at, one in enumerate(unlike):
            for place, two in enumerate(unlike):
                self.assertEqual(one == two, at == place, (at, place))
        for value in [*any_values(), run, tables, Bench(tables)]:
            self.assertFalse(player() == value)

    def test_letters_sent_and_letters_of_the_run(self):
        # What was sent can be taken up from the tick on at which it was sent.
        net = small_net()
        one, other = Player(Run(net)), Player(Run(net))
        one.send("a", "1")
        one.go(1)
        other.go(1)
        other.send("a", "1")
        self.assertNotEqual(one, other)
        third = Player(Run(net))
        third.go(0)
        third.send("a", "1")
        third.advance()
        self.assertEqual(one, third)

    def test_clocks_and_events_alone(self):
        net = small_net()
        one, other = Player(Run(net)), Player(Run(net))
        one.go(3)
        other.go(5)
        self.assertNotEqual(one, other)
        other.undo()
        other.send("a", "1")
        other.go(10)
        one.undo()
        one.go(1)
        one.send("a", "1")
        one.go(9)
        # The same letter went as long, a tick later.
        self.assertEqual((one.clock, told_state(one, net)), (other.clock, told_state(other, net)))
        self.assertNotEqual(one, other)

    def test_under_way_alone(self):
        # The answer to the first copy of the first letter is so late that it ends the sending of the fifth one, which is under way.
        quick = Lane(Round("x"))
        links = [Link("az", "a", "z", quick, Lane(Round("x"), 16)), Link("ab", "a", "b", quick, quick), Link("bz", "b", "z", quick, quick)]
        net = Net(list("abz"), links, [Flow("x", "a", "z", 1, 1)], SHORT, 8)
        tables = Tables(net).laid("x", "first", ("a", "z")).laid("x", "spare", tuple("abz"))
        players = [Player(Run(net), tables) for _ in range(3)]
        for player, last in zip(players, "010"):
            for letter in ("", "", "", "", last, "0"):
                player.send("x", letter)
            player.go(19)
            self.assertEqual([str(event) for event in player.events()][-3:], ["18 ended x a 0", "18 came x b 0", "18 taken x a 1"])
            self.assertEqual((player.handed("x"), player.waiting("x"), player.places_of("x")), (("",) * 4, (), ((0, 0, "b"), (0, 1, "a"))))
        self.assertEqual([players[0] == other for other in players], [True, False, True])
        for player in players:
            player.go(1)
        self.assertEqual([player.handed("x")[-1] for player in players], ["0", "1", "0"])

    def test_letters_under_way_and_handed_out(self):
        net = small_net()
        for ticks, is_equal in ((0, False), (1, False), (4, False), (60, False)):
            one, other = Player(Run(net)), Player(Run(net))
            one.send("a", "1")
            other.send("a", "0")
            one.go(ticks)
            other.go(ticks)
            self.assertEqual(one == other, is_equal)

    def test_parts_of_plays(self):
        letter = Letter("x", 0, "01", 3, 1)
        letters = [letter, Letter("y", 0, "01", 3, 1), Letter("x", 1, "01", 3, 1), Letter("x", 0, "1", 3, 1), Letter("x", 0, "01", 4, 1),
                   Letter("x", 0, "01", 3, 0)]
        parcels = [Parcel(letter, "first", ("a",), False, "b"), Parcel(letters[1], "first", ("a",), False, "b"), Parcel(letter, "spare", ("a",), False, "b"),
                   Parcel(letter, "first", ("c",), False, "b"), Parcel(letter, "first", ("a",), True, "b"), Parcel(letter, "first", ("a",), False, None)]
        posts = [Post(Sender(), letter, (), Receiver(), ()), Post(Sender(mark=1), letter, (), Receiver(), ()), Post(Sender(), None, (), Receiver(), ()),
                 Post(Sender(), letter, ((0, ""),), Receiver(), ()), Post(Sender(), letter, (), Receiver(wanted=1), ()), Post(Sender(), letter, (), Receiver(), (("", 1),))]
        logs = [Log([1, 2], 2), Log([1, 2], 1), Log([1, 3], 2), Log([], 0)]
        for row in (letters, parcels, posts, logs):
            for at, one in enumerate(row):
                for place, other in enumerate(row):
                    self.assertEqual(one == other, at == place)
                self.assertFalse(one == "no")
        self.assertEqual(Log([1, 2, 3], 2), Log([1, 2], 2))

    def test_events_are_a_generator(self):
        player = Player(Run(small_net(), contents={"a": [(0, "01")]}))
        player.go(9)
        rows = player.events()
        self.assertIs(iter(rows), rows)
        self.assertEqual(next(rows), Event(0, "taken", "a", "x", 0))
        self.assertEqual(len(list(rows)), 2)
        self.assertEqual(len(list(player.events())), 3)

    def test_refused_calls_change_nothing(self):
        chance = dealer(13)
        for _ in range(6):
            net, run = dealt_play(chance)
            player = Player(run)
            player.go(chance.randint(0, 30))
            before, many = player.twin(), player.deeds
            for work in (lambda: player.send("nobody", "1"), lambda: player.send(net.flows[0].name, "2"), lambda: player.go(-1),
                         lambda: player.give("a"), lambda: player.drop("a"), lambda: player.turn(net.flows[0].name),
                         lambda: player.offer(None), lambda: player.go(10 ** 6)):
                self.assertRaises(PostError, work)
                self.assertEqual((player, player.deeds), (before, many))
