"""Tables that are exchanged while letters are under way: as at a bench beside, and with all letters handed out."""

from layerpost.exchange import Bench
from layerpost.nets import Flow, Lane, Link, Net
from layerpost.player import Player
from layerpost.rounds import Round
from layerpost.runs import Run
from layerpost.tables import Tables
from tests.helpers import Case, dealer, error_of
from tests.nets import walked_ways
from tests.plays import SlowPlay, plain, told_state
from tests.test_frames import SHORT
from tests.test_player import LINES, dealt_play

SHAPE = ("ab bd ac cd ad bc", (("x", "a", "d"), ("y", "d", "a")))


def dealt_tables(net, chance):
    """Tables with a way by chance for each flow and word."""
    tables = Tables(net)
    for flow in net.flows:
        for way in ("first", "spare"):
            tables = tables.laid(flow.name, way, chance.choice(walked_ways(net, flow.name)))
    return tables


class Beside:
    """A player, a bench beside it, and a play of the test; deeds are done at all three."""

    def __init__(self, case, run, tables):
        self.case, self.player, self.bench, self.slow = case, Player(run, tables), Bench(tables), SlowPlay(run, tables)
        self.net, self.old, self.offered, self.seen = run.net, 0, None, set()

    def do(self, word, *told):
        """A deed: it is refused as at the bench, or because of letters."""
        wanted = error_of(getattr(self.bench, word), *told)
        if wanted is None and word == "drop" and self.slow.hold(self.old):
            wanted = ("Clashing", "letters")
            self.bench.undo()
        before = self.player.twin()
        self.case.assertEqual(error_of(getattr(self.player, word), *told), wanted)
        self.seen.add((word, wanted if wanted is None else wanted[1]))
        if wanted is not None:
            self.case.assertEqual(self.player, before)
            return
        new = 1 - self.old
        if word == "offer":
            self.offered = told[0]
        elif word == "give":
            self.slow.sheets[told[0], new] = self.offered
        elif word == "turn":
            self.slow.hues[told[0]] = new
        else:
            del self.slow.sheets[told[0], self.old]
            if not [house for house in self.net.houses if (house, self.old) in self.slow.sheets]:
                self.old = new

    def tick(self):
        self.case.assertEqual([plain(event) for event in self.player.advance()], self.slow.tick())
        self.case.assertEqual(told_state(self.player, self.net), self.slow.state())
        self.case.assertEqual([self.player.hue_of(flow.name) for flow in self.net.flows],
                              [self.bench.hue_of(flow.name) for flow in self.net.flows])


class ExchangeTest(Case):

    def test_any_order_of_deeds(self):
        chance, seen, over = dealer(1), set(), 0
        for _ in range(12):
            net, run = dealt_play(chance, LINES[:3], (10 ** 4,), SHAPE)
            beside = Beside(self, run, dealt_tables(net, chance))
            for _ in range(200):
                for _ in range(chance.choice((0, 0, 1, 3))):
                    word = chance.choice(("offer", "give", "give", "turn", "turn", "drop", "drop", "drop"))
                    told = {"offer": lambda: dealt_tables(net, chance), "turn": lambda: chance.choice(net.flows).name}
                    beside.do(word, told.get(word, lambda: chance.choice(net.houses))())
                beside.tick()
            while not beside.player.is_idle and beside.player.clock < 1500:
                beside.tick()
            seen |= beside.seen
            over += beside.old + (beside.offered is not None)
            for flow in net.flows:
                # All are handed out once, in order.
                self.assertEqual(beside.player.handed(flow.name), tuple([content for _, content in run.contents_of(flow.name)]))
        self.assertGreater(over, 10)
        self.assertLessEqual({("offer", None), ("offer", "offer"), ("give", None), ("give", "give"), ("turn", None), ("turn", "turn"),
                              ("turn", "early"), ("drop", None), ("drop", "drop"), ("drop", "early"), ("drop", "letters")}, seen)

    def test_with_time_outs(self):
        chance = dealer(2)
        for _ in range(8):
            net, run = dealt_play(chance, LINES[:3], (4, 9, 20), SHAPE)
            beside = Beside(self, run, dealt_tables(net, chance))
            for _ in range(150):
                word = chance.choice(("offer", "give", "turn", "drop"))
                beside.do(word, {"offer": dealt_tables(net, chance), "turn": chance.choice(net.flows).name}.get(word, chance.choice(net.houses)))
                beside.tick()

    def net(self):
        lane = Lane(Round("x"), 1)
        links = [Link(pair, *pair, lane, lane) for pair in ("ab", "bd", "ac", "cd")]
        return Net(list("abcd"), links, [Flow("x", "a", "d", 4, 50)], SHORT, 8)

    def test_each_letter_goes_by_the_hue_with_which_it_was_taken_up(self):
        net = self.net()
        old = Tables(net).laid("x", "first", tuple("abd")).laid("x", "spare", tuple("acd"))
        new = Tables(net).laid("x", "first", tuple("acd")).laid("x", "spare", tuple("abd"))
        # A letter of one cell is two ticks on each lane, so it is taken up at 0, 8, 16 ..
        for turned in range(1, 20):
            player = Player(Run(net, contents={"x": [(0, "")] * 4}), old)
            player.offer(new)
            for house in "dcba":
                player.give(house)
            player.go(turned)
            player.turn("x")
            self.assertEqual(player.hue_of("x"), 1)
            player.go(60)
            events = [(event.tick, event.word, event.name) for event in player.events()]
            came = [name for _, word, name in events if word == "came"]
            back = [name for _, word, name in events if word == "back"]
            ahead = -(-turned // 8)
            self.assertEqual(came, ["b"] * ahead + ["c"] * (4 - ahead))
            self.assertEqual(back, came)
            self.assertEqual(player.handed("x"), ("",) * 4)

    def test_drop_while_letters_of_the_hue_are_under_way(self):
        net = self.net()
        tables = Tables(net).laid("x", "first", tuple("abd")).laid("x", "spare", tuple("acd"))
        player = Player(Run(net, contents={"x": [(0, "")]}), tables)
        player.offer(tables)
        for house in "abcd":
            self.refused(("Clashing", "early"), player.drop, house)
            player.give(house)
        player.turn("x")
        # Nothing is taken up yet, so all houses can drop; taken back, the letter goes by the new hue.
        self.assertIsNone(player.tried(lambda same: [same.drop(house) for house in "dbac"][0]))
        self.assertEqual(player.undo(), "turn")
        player.advance()
        player.turn("x")
        for tick in range(1, 8):
            self.assertEqual(player.clock, tick)
            self.refused(("Clashing", "letters"), player.drop, "c")
            player.advance()
        # At the tick 8 the answer has come.
        self.refused(("Clashing", "letters"), player.drop, "c")
        player.advance()
        self.assertEqual([player.drop(house) for house in "cabd"], [None] * 4)
        self.refused(("Clashing", "drop"), player.drop, "a")
        player.offer(tables)
        self.refused(("Clashing", "give"), player.give, "a") if player.hue_of("x") == 0 else player.give("a")

    def test_answers_and_copies(self):
        # The first copy's lane is slow, so the answer of the second one ends the sending while the first copy is under way.
        slow, quick = Lane(Round("x"), 30), Lane(Round("x"))
        links = [Link("ad", "a", "d", slow, slow), Link("ab", "a", "b", quick, quick), Link("bd", "b", "d", quick, quick)]
        net = Net(list("abd"), links, [Flow("x", "a", "d", 4, 3)], SHORT, 8)
        tables = Tables(net).laid("x", "first", tuple("ad")).laid("x", "spare", tuple("abd"))
        player = Player(Run(net, contents={"x": [(0, "")]}), tables)
        player.advance()
        player.offer(tables)
        for house in "abd":
            player.give(house)
        player.turn("x")
        while "ended" not in [event.word for event in player.advance()]:
            self.refused(("Clashing", "letters"), player.drop, "b")
        self.assertEqual(player.places_of("x"), ((0, 0, "a"),))
        self.assertEqual(player.clock, 3 + 4 + 1)
        while (0, 0, "a") in player.places_of("x"):
            self.refused(("Clashing", "letters"), player.drop, "b")
            player.advance()
        # Only the answer to the late copy is under way, for 30 ticks more: answers are no copies.
        self.assertEqual(player.places_of("x"), ((1, 0, "d"),))
        self.assertIsNone(player.drop("b"))

    def test_a_letter_waits_also_if_its_house_gets_other_tables(self):
        net = self.net()
        old = Tables(net, {("a", "x", "first"): "b"})
        new = Tables(net).laid("x", "first", tuple("abd"))
        player = Player(Run(net, contents={"x": [(0, "")]}), old)
        player.go(5)
        self.assertEqual(player.places_of("x"), ((0, 0, "b"),))
        player.offer(new)
        for house in "abcd":
            player.give(house)
        player.turn("x")
        player.go(30)
        self.assertEqual((player.places_of("x"), player.is_idle), (((0, 0, "b"),), False))
        self.refused(("Clashing", "letters"), player.drop, "a")
