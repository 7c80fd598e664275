"""What is shown of plays: no letter is later than is told, told runs meet it, and flows do not touch one another."""

from layerpost.bounds import exchange_ticks, greatest_delay, round_trip, sound, way_growth, worst_run
from layerpost.follow import followed
from layerpost.marks import Receiver, Sender
from layerpost.nets import Flow, Net
from layerpost.player import Player
from layerpost.runs import Fall, Run
from layerpost.tables import Tables
from tests.helpers import Case, dealer
from tests.plays import plain
from tests.test_bounds import FRAMES, WAYS, dealt_ways, with_flow
from tests.test_player import LINES, SHAPES, dealt_play, dealt_run


def names_that_can_fall(net):
    """Links, and houses at which no flow begins or ends."""
    ends = {house for flow in net.flows for house in (flow.begin, flow.end)}
    return [*[link.name for link in net.links], *[house for house in net.houses if house not in ends]]


def sound_case(chance):
    """A net of two ways by chance whose flow is just sound, its tables, and a run."""
    frames, size = chance.choice(FRAMES), chance.choice((1, 4, 8))
    _, tables = dealt_ways(chance, chance.choice(WAYS), 10 ** 4, 5, frames, size)
    tables = with_flow(tables, timeout=round_trip(tables, "x")(5) + chance.choice((0, 0, 3)))
    return tables, dealt_run(tables.net, chance, many=5)


class DelaysShownTest(Case):

    def played(self, run, tables):
        """A player that has played all, at each tick with a beginning of the contents handed out."""
        player = Player(run, tables)
        contents = tuple([content for _, content in run.contents_of("x")])
        while not (player.handed("x") == contents and player.is_idle) and player.clock < 1500:
            player.advance()
            handed = player.handed("x")
            self.assertEqual(handed, contents[:len(handed)])
        return player, contents

    def test_without_a_fall(self):
        chance, met = dealer(1), 0
        for _ in range(45):
            tables, run = sound_case(chance)
            player, contents = self.played(run, tables)
            self.assertEqual(player.handed("x"), contents)
            self.assertNotIn("changed", [event.word for event in player.events()])
            for content, ticks in zip(contents, player.ticks_of("x")):
                self.assertLessEqual(ticks, greatest_delay(tables, "x", len(content)))
                met += ticks == greatest_delay(tables, "x", len(content))
        self.assertGreater(met, 3)

    def test_with_a_fall(self):
        chance, changes = dealer(2), 0
        for _ in range(60):
            tables, run = sound_case(chance)
            run = run.with_fall(Fall(chance.randint(0, 120), chance.choice(names_that_can_fall(tables.net))))
            player, contents = self.played(run, tables)
            words = [event.word for event in player.events()]
            self.assertLessEqual(words.count("changed"), 1)
            changes += words.count("changed")
            is_first = run.fall.name in [link for link, _, _ in sound(tables, "x").forth] or "changed" in words
            self.assertEqual(player.handed("x"), contents)
            for content, ticks in zip(contents, player.ticks_of("x")):
                self.assertLessEqual(ticks, greatest_delay(tables, "x", len(content), 1))
            self.assertTrue(is_first or "changed" not in words)
        self.assertGreater(changes, 10)

    def test_worst_runs_and_alarms(self):
        chance = dealer(3)
        for _ in range(25):
            tables, _ = sound_case(chance)
            for way in ("first", "spare"):
                length = chance.randint(0, 5)
                met = worst_run(tables, "x", length, way)
                player = Player(met.run, tables)
                player.go(met.there)
                many = len(player.handed("x"))
                self.assertEqual([event.word for event in player.advance() if event.word == "handed"], ["handed"])
                self.assertEqual((player.handed("x")[many:], player.ticks_of("x")[many:]), ((met.letter,), (met.there - met.taken,)))
                told = way_growth(tables, "x", way)(length)
                flow = tables.net.flow_named("x")
                self.assertEqual(met.there - met.taken, told + (flow.timeout if way == "spare" else 0))
            hasty = with_flow(tables, timeout=max(1, round_trip(tables, "x")(5) - chance.choice((1, 2, 9))))
            player = Player(sound(hasty, "x").run, hasty)
            player.go(2000)
            words = [event.word for event in player.events()]
            self.assertIn("changed", words)
            self.assertNotIn("fell", words)

    def test_followed_tells_what_is_played(self):
        chance = dealer(4)
        for _ in range(60):
            tables, run = sound_case(chance)
            tables = with_flow(tables, timeout=chance.choice((2, 6, 15, 60)))
            run = run.on_net(tables.net)
            if chance.random() < .7:
                run = run.with_fall(Fall(chance.randint(0, 90), chance.choice(names_that_can_fall(tables.net))))
            player = Player(run, tables)
            player.go(1500)
            events = [plain(event) for event in player.events()]
            taken = [(tick, mark) for tick, word, _, _, mark in events if word == "taken"]
            ended = [tick for tick, word, _, _, _ in events if word == "ended"]
            there = [tick for tick, word, _, _, _ in events if word == "handed"]
            for at, journey in enumerate(followed(run, tables, "x")):
                self.assertEqual((journey.taken, journey.mark), taken[at])
                self.assertEqual(journey.ended, ended[at] if at < len(ended) else None)
                self.assertEqual(journey.there, there[at] if at < len(there) else None)

    def test_nothing_of_a_hue_behind_the_ticks_of_an_exchange(self):
        chance = dealer(5)
        for _ in range(40):
            tables, run = sound_case(chance)
            if chance.random() < .7:
                run = run.with_fall(Fall(chance.randint(0, 60), chance.choice(names_that_can_fall(tables.net))))
            player = Player(run.with_contents("x", run.contents_of("x")[:1]), tables)
            while not player.tried(lambda same: [event for event in same.advance() if event.word == "taken"]):
                player.advance()
            player.go(1 + exchange_ticks(tables, "x"))
            self.assertEqual((player.places_of("x"), player.waiting("x")), ((), ()))


class FlowsShownTest(Case):

    def test_a_flow_with_another_one_beside_it(self):
        chance = dealer(6)
        for _ in range(40):
            net, run = dealt_play(chance, LINES, (6, 15, 60), chance.choice([shape for shape in SHAPES if len(shape[1]) == 2]))
            if chance.random() < .5:
                run = run.with_fall(Fall(chance.randint(0, 60), chance.choice(names_that_can_fall(net))))
            tables = Tables.of(net)
            both = Player(run, tables)
            both.go(200)
            for flow in net.flows:
                alone = Net(net.houses, net.links, [flow], net.rule, net.size)
                lines = [line for line in run.told_lines() if line[2] == flow.name]
                told = Run(alone, {lane: run.place_of(lane) for lane in run.told_lanes()},
                           {line: run.phase_of(line) for line in lines}, {line: run.losses_of(line) for line in lines},
                           {flow.name: run.contents_of(flow.name)}, run.fall)
                rows = {key: house for key, house in tables if key[1] == flow.name}
                player = Player(told, Tables(alone, rows))
                player.go(200)
                self.assertEqual([plain(event) for event in player.events()],
                                 [plain(event) for event in both.events() if event.flow in (flow.name, None)])
                self.assertEqual(player.ticks_of(flow.name), both.ticks_of(flow.name))

    def test_what_a_sender_and_a_receiver_do(self):
        chance = dealer(7)
        for _ in range(50):
            net, run = dealt_play(chance, LINES, (3, 6, 15, 60))
            player = Player(run)
            player.go(200)
            for flow in net.flows:
                sender, receiver = Sender(), Receiver()
                for event in player.events():
                    if event.flow != flow.name:
                        continue
                    if event.word in ("handed", "known"):
                        receiver, is_new = receiver.takes(event.mark)
                        self.assertEqual(is_new, event.word == "handed")
                    if event.word == "taken":
                        self.assertEqual(sender.mark, event.mark)
                        sender = sender.sends()
                    if event.word in ("ended", "stale"):
                        behind = sender.hears(event.mark)
                        self.assertEqual(behind != sender, event.word == "ended")
                        sender = behind
                    if event.word == "changed":
                        sender = sender.turns()
                        self.assertEqual(sender.mark, event.mark)
                self.assertEqual(sender.way, player.way_of(flow.name))


class BetterTest(Case):
    """What only gets better, and what only adds."""

    def growths(self, tables):
        return [way_growth(tables, "x"), way_growth(tables, "x", "spare"), round_trip(tables, "x"), round_trip(tables, "x", "spare")]

    def never_later(self, tables, other):
        """The first tables' ways, trips and delays are never greater than those of the others."""
        for one, two in zip(self.growths(tables), self.growths(other)):
            self.assertTrue(one.at_most(two))
        for length in (0, 3, 5):
            self.assertLessEqual(greatest_delay(tables, "x", length), greatest_delay(other, "x", length))
        if sound(other, "x"):
            self.assertTrue(sound(tables, "x"))
            self.assertLessEqual(greatest_delay(tables, "x", 5, 1), greatest_delay(other, "x", 5, 1))
            self.assertLessEqual(exchange_ticks(tables, "x"), exchange_ticks(other, "x"))

    def with_lane(self, tables, link, house, lane):
        """The tables of a net with another lane."""
        told = tables.net.link_named(link)
        lanes = [lane, told.back] if house == told.one else [told.there, lane]
        return Tables(tables.net | type(told)(told.name, told.one, told.other, *lanes), dict(tables))

    def test_lanes(self):
        chance = dealer(8)
        for _ in range(4):
            tables, _ = sound_case(chance)
            for link in tables.net.links:
                for house, lane in ((link.one, link.there), (link.other, link.back)):
                    kind = type(lane)
                    if lane.travel:
                        self.never_later(self.with_lane(tables, link.name, house, kind(lane.ring, lane.travel - 1, lane.plan, lane.rule)), tables)
                    for place in [place for place, slot in enumerate(lane.ring) if slot != "x"]:
                        more = kind(lane.ring.with_slot(place, "x"), lane.travel, lane.plan, lane.rule)
                        self.never_later(self.with_lane(tables, link.name, house, more), tables)
                    self.never_later(self.with_lane(tables, link.name, house, kind(lane.ring, lane.travel, lane.plan)), tables)

    def test_time_outs_and_bits(self):
        chance = dealer(9)
        for _ in range(12):
            tables, _ = sound_case(chance)
            timeout = tables.net.flow_named("x").timeout
            longer = with_flow(tables, timeout=timeout + chance.choice((1, 50)))
            self.assertTrue(sound(tables, "x") and sound(longer, "x"))
            self.assertLess(greatest_delay(tables, "x", 5, 1), greatest_delay(longer, "x", 5, 1) + 1)
            self.assertEqual(greatest_delay(tables, "x", 5), greatest_delay(longer, "x", 5))
            self.assertTrue(sound(with_flow(tables, most=3), "x"))
            for growth in self.growths(tables):
                self.assertTrue(growth.is_rising)
            for falls in (0, 1):
                delays = [greatest_delay(tables, "x", length, falls) for length in range(6)]
                self.assertEqual(delays, sorted(delays))

    def test_one_house_more_only_adds_and_a_flow_more_turns_nothing(self):
        chance = dealer(10)
        for _ in range(12):
            _, tables = dealt_ways(chance, ("ab bc cz", "ad dz"), 300)
            net = tables.net
            short = chance.choice((("ab", "b"), ("bc", "c")))
            first = leads_houses(tables)
            total = way_growth(tables, "x")
            for mark in (0, 1):
                parts = [way_growth(tables, "x", "first", mark)(length) for length in range(6)]
                self.assertTrue(all([total(length) >= part for length, part in enumerate(parts)]))
            self.assertEqual(first, ("a", "b", "c", "z"))
            # The last lanes alone, for a flow that begins later.
            later = Net(net.houses, net.links, [Flow("x", short[1], "z", 6, 300)], net.rule, net.size)
            told = Tables(later, {key: house for key, house in tables if key[2] == "first" and key[0] in first[first.index(short[1]):]})
            self.assertTrue(way_growth(told, "x").at_most(total))
            self.assertTrue(round_trip(told, "x").at_most(round_trip(tables, "x")))
            more = Tables(net | Flow("q", "b", "a", 9, 5), dict(tables))
            self.assertEqual(self.growths(more), self.growths(tables))
            self.assertEqual(sound(more, "x") and sound(more, "x").forth, sound(tables, "x") and sound(tables, "x").forth)


def leads_houses(tables):
    """The houses of the first way."""
    rows, houses = dict(tables), ["a"]
    while houses[-1] != "z":
        houses.append(rows[houses[-1], "x", "first"])
    return tuple(houses)
