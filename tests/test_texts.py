"""Pages: against lines that the test writes itself."""

from layerpost.frames import FrameRule
from layerpost.losses import Burst, MachineRule, Total
from layerpost.nets import Flow, Lane, Link, Net
from layerpost.plans import Phase, Plan
from layerpost.rounds import Round
from layerpost.runs import Fall, Run
from layerpost.tables import Tables
from layerpost.texts import net_text, run_text, stack_text, tables_text
from tests.helpers import Case, any_values, dealer
from tests.nets import example_net
from tests.test_bounds import FRAMES, LINES, WAYS, dealt_ways
from tests.test_least_stacks import stacks
from tests.test_player import dealt_play
from tests.test_stacks import stack


def frame_words(rule):
    return f"{rule.flag} :" + " ,".join([f" {watch} {put}" for watch, put in rule.pairs])


def plan_words(plan):
    return " / ".join([" ".join(["mute" if phase.mute else "row", *["+".join(map(str, ages)) for ages in phase.sums]])
                       for phase in plan.phases])


def rule_words(rule):
    return "losses " + " / ".join([f"{kept} {'-' if lost is None else lost}" for kept, lost in rule.places])


def round_words(ring):
    return " ".join([slot or "-" for slot in ring.slots])


def lines_of_lane(word, lane):
    return [f"{word} {lane.travel} {round_words(lane.ring)}", "plan " + plan_words(lane.plan), "rule " + rule_words(lane.rule)]


def lines_of_net(net):
    lines = [f"net {net.size} {frame_words(net.rule)}", "houses " + " ".join(net.houses)]
    for link in net.links:
        lines += [f"link {link.name} {link.one} {link.other}", *lines_of_lane("there", link.there), *lines_of_lane("back", link.back)]
    return lines + [f"flow {flow.name} {flow.begin} {flow.end} {flow.most} {flow.timeout}" for flow in net.flows]


def lines_of_tables(tables):
    return [f"next {house} {flow} {way} {other}" for (house, flow, way), other in sorted(dict(tables).items())] or ["-"]


def lines_of_run(run):
    lanes = sorted([(link.name, house) for link in run.net.links for house in (link.one, link.other)])
    lines = [f"place {link} {house} {run.place_of((link, house))}" for link, house in lanes if run.place_of((link, house))]
    for link, house in lanes:
        for flow in sorted([flow.name for flow in run.net.flows]):
            if flow in run.net.link_named(link).lane_from(house).ring.slots:
                phase, losses = run.phase_of((link, house, flow)), run.losses_of((link, house, flow))
                if phase or losses:
                    lines.append(f"line {link} {house} {flow} {phase} {losses or '-'}")
    for flow in sorted([flow.name for flow in run.net.flows]):
        lines += [f"letter {flow} {tick} {letter or '-'}" for tick, letter in run.contents_of(flow)]
    return ["run", *lines, *([f"fall {run.fall.name} at {run.fall.tick}"] if run.fall else [])]


def lines_of_stack(told):
    return [f"stack {told.size} {frame_words(told.frames)}", "plan " + plan_words(told.plan), "rule " + rule_words(told.rule),
            f"lane {told.travel} {told.flow} {round_words(told.ring)}"]


def odd_net():
    """A net with names that are words of pages, and with frames without watches."""
    lane = Lane(Round("plan", "run", None), 1000, Plan(Phase((2,), (2, 4)), Phase((1,), mute=True)), Burst(1, 3))
    links = [Link("link", "net", "houses", lane, Lane(Round("plan", "run"))), Link("there", "next", "net", Lane(Round("run")), lane),
             Link("back", "next", "houses", Lane(Round(None)), Lane(Round(*["plan"] * 24), rule=Total(2)))]
    flows = [Flow("run", "net", "houses", 199, 10 ** 9), Flow("plan", "next", "net", 0, 1)]
    return Net(["net", "houses", "next"], links, flows, FrameRule("10101010"), 32)


class TextsTest(Case):

    def nets(self):
        chance = dealer(1)
        yield odd_net()
        yield example_net()
        yield Net(("b", "a"), (), (), FRAMES[4], 1)
        for _ in range(20):
            yield dealt_ways(chance, chance.choice(WAYS), 99, frames=chance.choice(FRAMES))[0]
            yield dealt_play(chance)[0]

    def test_nets(self):
        pages = {}
        for net in self.nets():
            page = net_text(net=net)
            self.assertEqual(page, "\n".join(lines_of_net(net)))
            pages[page] = net
        self.assertGreater(len(pages), 30)
        self.assertEqual(net_text(Net(("b", "a"), (), (), FrameRule("01"), 1)), "net 1 01 :\nhouses b a")

    def test_tables(self):
        net = odd_net()
        self.assertEqual(tables_text(Tables(net)), "-")
        tables = Tables(net, {("next", "plan", "spare"): "net", ("houses", "run", "first"): "next", ("next", "plan", "first"): "houses"})
        self.assertEqual(tables_text(tables=tables), "next houses run first next\nnext next plan first houses\nnext next plan spare net")
        chance = dealer(2)
        for _ in range(20):
            net = dealt_play(chance)[0]
            told = Tables.of(net)
            self.assertEqual(tables_text(told), "\n".join(lines_of_tables(told)))

    def test_runs(self):
        net = odd_net()
        self.assertEqual(run_text(Run(net)), "run")
        run = Run(net, {("link", "net"): 2, ("there", "next"): 0, ("back", "houses"): 23}, {("link", "net", "run"): 1}, {
            ("back", "houses", "plan"): ".x..", ("link", "net", "plan"): "...", ("link", "net", "run"): "x...x."},
            {"run": [(0, ""), (0, "01"), (20000, "")], "plan": []}, Fall(0, "back"))
        self.assertEqual(run_text(run=run).split("\n"), [
            "run", "place back houses 23", "place link net 2", "line back houses plan 0 .x", "line link net run 1 x...x",
            "letter run 0 -", "letter run 0 01", "letter run 20000 -", "fall back at 0"])
        chance = dealer(3)
        for _ in range(30):
            net, run = dealt_play(chance)
            run = run.with_fall(chance.choice((None, Fall(chance.randint(0, 20000), net.links[0].name))))
            self.assertEqual(run_text(run), "\n".join(lines_of_run(run)))

    def test_stacks(self):
        for told in [stack(), stack(frames=FrameRule.simple("0", "1")), *stacks(4, 20)]:
            self.assertEqual(stack_text(stack=told), "\n".join(lines_of_stack(told)))
        self.assertEqual(stack_text(stack()), "stack 4 011 : 01 0\nplan row 1\nrule losses 0 1 / 0 -\nlane 2 a a b b")

    def test_unlike_things_have_unlike_pages(self):
        chance = dealer(5)
        for works in ([(net, net_text) for net in self.nets()], [(told, stack_text) for told in stacks(6, 30)],
                      [(dealt_play(chance)[1], run_text) for _ in range(12)]):
            for one, work in works:
                for other, _ in works:
                    if getattr(one, "net", None) == getattr(other, "net", None):
                        self.assertEqual(work(one) == work(other), one == other)
        net, run = dealt_play(chance)
        lane = (net.links[0].name, net.links[0].one)
        others = [run, run.with_fall(Fall(3, net.links[0].name)), run.with_fall(Fall(3, net.links[1].name)), run.with_contents(net.flows[0].name, []),
                  run.with_contents(net.flows[0].name, [(0, "")]), run.with_contents(net.flows[0].name, [(0, "0")]),
                  run.with_contents(net.flows[0].name, [(1, "0")]), Run(net), Run(net, {lane: 0})]
        for one in others:
            for other in others:
                self.assertEqual(run_text(one) == run_text(other), one == other)

    def test_refused(self):
        for value in [*any_values(), LINES[0], MachineRule((0, None))]:
            self.refused(("BadNet", "net"), net_text, value)
            self.refused(("BadTable", "tables"), tables_text, value)
            self.refused(("BadRun", "run"), run_text, value)
            self.refused(("BadStack", "stack"), stack_text, value)
        self.refused(("BadNet", "net"), net_text, Tables(odd_net()))
        self.refused(("BadRun", "run"), run_text, odd_net())
