"""The whole: pages that are read back and played, desks that are told what the pages tell, from a page to its worst run."""

from layerpost.bounds import greatest_delay, round_trip, sound, worst_run
from layerpost.desk import Desk
from layerpost.look_bounds import shows_met, shows_sound
from layerpost.player import Player
from layerpost.reader import read_net, read_run, read_stack, read_tables
from layerpost.runs import Fall
from layerpost.stacks import Stack
from layerpost.tables import Tables
from layerpost.texts import net_text, run_text, stack_text, tables_text
from tests.helpers import Case, dealer, error_of
from tests.plays import told_state
from tests.test_bounds import FRAMES, WAYS, dealt_ways, with_flow
from tests.test_player import dealt_play, dealt_run


def told_lines(net, tables, run):
    """Lines for a desk that tell what the pages of a net, of tables that lead, and of a run tell."""
    lines = [f"net {net.size} {' '.join(net.houses)} / {net.rule}"]
    for link in net.links:
        lines.append(f"link {link.name} {link.one} {link.other} {link.there.travel} / {link.there.ring} / {link.back.ring}")
        for one, other, lane in ((link.one, link.other, link.there), (link.other, link.one, link.back)):
            lines += [f"plan {one} {other} {lane.plan}", f"rule {one} {other} {lane.rule}"]
    lines += [f"flow {flow.name} {flow.begin} {flow.end} {flow.most} {flow.timeout}" for flow in net.flows]
    for flow in net.flows:
        for way in ("first", "spare"):
            houses = [flow.begin]
            while houses[-1] != flow.end:
                houses.append(tables[houses[-1], flow.name, way])
            lines.append(f"lay {flow.name} {way} {' '.join(houses)}")
    for line in run_text(run).split("\n")[1:]:
        words = line.split(" ")
        if words[0] in ("place", "line"):
            words[1:3] = [words[2], net.link_named(words[1]).far_end(words[2])]
        lines.append(" ".join(words))
    return lines


def one_travel(net):
    """The net with the travel of the lane there on both lanes of a link, as lines for a desk can tell it."""
    for link in net.links:
        kind = type(link.back)
        back = kind(link.back.ring, link.there.travel, link.back.plan, link.back.rule)
        net = net | type(link)(link.name, link.one, link.other, link.there, back)
    return net


class WholeTest(Case):

    def dealt(self, seed, many):
        chance = dealer(seed)
        for _ in range(many):
            net, _ = dealt_play(chance, timeouts=(8, 30, 300))
            net = one_travel(net)
            run = dealt_run(net, chance)
            if chance.random() < .6:
                run = run.with_fall(Fall(chance.randint(0, 40), chance.choice(net.links).name))
            yield net, Tables.of(net), run

    def test_plays_of_pages_that_are_read_back(self):
        for net, tables, run in self.dealt(1, 15):
            other = read_net(net_text(net))
            read = Player(read_run(other, run_text(run)), read_tables(other, tables_text(tables)))
            player = Player(run, tables)
            for _ in range(60):
                self.assertEqual(read, player)
                self.assertEqual(read.advance(), player.advance())
            for one in (read, player):
                one.send(net.flows[0].name, "1")
                one.offer(tables)
                one.go(40)
            self.assertEqual(read, player)
            self.assertEqual(told_state(read, other), told_state(player, net))

    def test_a_fresh_desk_that_is_told_what_the_pages_tell(self):
        for net, tables, run in self.dealt(2, 15):
            desk, other = Desk(), Desk()
            lines = told_lines(net, tables, run)
            self.assertEqual(desk.say_all(*lines), ["ok"] * len(lines))
            self.assertEqual((desk.net_now, desk.laid_tables, desk.run_now), (net, tables, run))
            # Its own pages, told once more.
            for line in told_lines(read_net(desk("show").replace(" ; ", "\n")), desk.laid_tables,
                                   read_run(net, desk("run").replace(" ; ", "\n"))):
                other(line)
            self.assertEqual((other.net_now, other.laid_tables, other.run_now), (net, tables, run))
            questions = ["show", "run", "frame 0110", "cells 7"]
            for flow in net.flows:
                questions += [f"ways {flow.name}", f"delay {flow.name} first 3", f"trip {flow.name} spare 4", f"worst {flow.name} 5", f"sound {flow.name}"]
            questions += ["play", "go 7", "send x 01", "go 30", "handed x", "delays x", "way x", "clock"]
            for line in questions:
                told = error_of(desk, line)
                if told is not None:
                    self.refused(told, other, line)
                else:
                    if line.split(" ")[0] in ("play", "go", "send"):
                        desk("undo")
                    self.assertEqual(desk(line), other(line))
            self.assertEqual(desk.play_now(), other.play_now())
            player = Player(run, tables)
            player.go(7)
            player.send("x", "01")
            player.go(30)
            self.assertEqual(desk.play_now(), player)

    def test_from_pages_to_the_worst_run_and_its_play(self):
        chance = dealer(3)
        for _ in range(20):
            _, tables = dealt_ways(chance, chance.choice(WAYS), 10 ** 4, 5, chance.choice(FRAMES), chance.choice((1, 4, 8)))
            tables = with_flow(tables, timeout=round_trip(tables, "x")(5))
            net = read_net(net_text(tables.net))
            told = read_tables(net, tables_text(tables))
            self.assertTrue(shows_sound(told, "x", sound(tables, "x")))
            for length, way, falls in ((5, "first", 0), (3, "spare", 1)):
                met = worst_run(told, "x", length, way)
                run = read_run(net, run_text(met.run))
                self.assertEqual(run, met.run)
                player = Player(run, told)
                player.go(met.there)
                self.assertNotIn("handed", [event.word for event in player.events() if event.tick == met.there])
                handed = [event.word for event in player.advance()].count("handed")
                self.assertEqual((handed, player.handed("x")[-1]), (1, met.letter))
                self.assertLessEqual(player.ticks_of("x")[-1], greatest_delay(tables, "x", length, falls))
                if falls == 0:
                    self.assertEqual(player.ticks_of("x")[-1], greatest_delay(tables, "x", length))
                self.assertTrue(shows_met(tables, "x", length, way, met))
            if sound(tables, "x").trip > 1:
                hasty = with_flow(tables, timeout=sound(tables, "x").trip - 1)
                alarm = sound(hasty, "x")
                player = Player(read_run(hasty.net, run_text(alarm.run)), read_tables(hasty.net, tables_text(hasty)))
                player.go(1000)
                self.assertIn("changed", [event.word for event in player.events()])

    def test_stacks_of_pages(self):
        chance = dealer(4)
        for _ in range(20):
            _, tables = dealt_ways(chance, WAYS[0], 100, frames=chance.choice(FRAMES))
            net = read_net(net_text(tables.net))
            for link in net.links:
                lane = link.there
                told = Stack(net.rule, net.size, lane.plan, lane.rule, lane.ring, "x", lane.travel)
                other = read_stack(stack_text(told))
                self.assertEqual((other, other.hop), (told, told.hop))
