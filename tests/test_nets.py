"""Lanes, links, flows and nets: made, asked, changed by operators, refused."""

from itertools import combinations

from layerpost.frames import FrameRule
from layerpost.losses import Burst, MachineRule, Total
from layerpost.nets import Flow, Lane, Link, Net
from layerpost.plans import Plan
from layerpost.rounds import Round
from tests.helpers import Case, any_values, dealer
from tests.nets import SIMPLE, dealt_net, example_net, joined, lane, link, net_of

RING = Round("x", None)
WRONG_NAMES = ("", "A", "abcdefghi", "a1", "-", "a b")


def wrong_kinds():
    """Values of all kinds, also things of nets."""
    return [*any_values(), RING, lane(), link("l", "a", "b"), Flow("x", "a", "b", 0, 1), Plan.plain(), Total(0), net_of("ad", "")]


def without(kind):
    """Those of these values that are of another kind, and not None."""
    return [value for value in wrong_kinds() if value is not None and not isinstance(value, kind)]


class LaneTest(Case):

    def test_attributes(self):
        plan, rule = Plan.copies(1), Burst(1, 1)
        for told in (Lane(RING, 7, plan, rule), Lane(rule=rule, plan=plan, travel=7, ring=RING)):
            self.assertEqual((told.ring, told.travel, told.plan, told.rule), (RING, 7, plan, rule))
        for told in (Lane(RING), Lane(RING, 0, None, None), Lane(ring=RING, rule=None)):
            self.assertEqual((told.travel, told.plan, told.rule), (0, Plan.plain(), Total(0)))
        self.assertEqual([Lane(RING, travel).travel for travel in (0, 1000)], [0, 1000])

    def test_carries(self):
        told = Lane(Round("x", None, "long"))
        self.assertEqual([told.carries(flow) for flow in ("x", "long", "y", "lon")], [True, True, False, False])
        for value in wrong_kinds():
            self.assertIs(told.carries(flow=value), False)

    def test_equal(self):
        lanes = [Lane(RING), Lane(Round("x")), Lane(RING, 1), Lane(RING, 0, Plan.copies(1)), Lane(RING, 0, None, Total(1))]
        for at, one in enumerate(lanes):
            self.assertEqual([one == other for other in lanes], [at == place for place in range(5)])
        self.assertEqual(Lane(RING), Lane(RING, 0, Plan.plain(), MachineRule((0, None))))
        self.assertFalse([value for value in any_values() if Lane(RING) == value])

    def test_refused(self):
        hasty = MachineRule((1, 0), (1, None))
        for value in without(Round) + [None]:
            self.refused(("BadRound", "ring"), Lane, value, value, value, value)
        for value in [*without(int), None, True, False, -1, 1001]:
            self.refused(("BadNumber", value), Lane, RING, value, 1, 1)
        for value in without(Plan):
            self.refused(("BadPlan", "plan"), Lane, RING, 0, value, hasty)
        for value in [*without(type(Total(0)))]:
            self.refused(("BadRule", "rule"), Lane, RING, 0, None, value)
        for rule in (hasty, MachineRule((1, None), (2, 0), (2, None)), MachineRule((1, None), (0, 0))):
            self.refused(("BadRule", "calm"), Lane, RING, 0, None, rule)
        # By its least places this one is calm.
        self.assertEqual(Lane(RING, 0, None, MachineRule((1, 1), (0, 0))).rule.places, ((0, 0),))
        self.refused(("BadPlan", "plan"), Lane, ring=RING, plan=0, rule=0)
        self.refused(("BadNumber", 1001), Lane, RING, travel=1001, rule=hasty)


class LinkTest(Case):

    def test_attributes_and_ends(self):
        there, back = lane("x"), lane("y", 3)
        for told in (Link("l", "a", "b", there, back), Link(back=back, there=there, other="b", one="a", name="l")):
            self.assertEqual((told.name, told.one, told.other, told.there, told.back), ("l", "a", "b", there, back))
            self.assertEqual([told.far_end("a"), told.far_end(house="b")], ["b", "a"])
            self.assertEqual([told.lane_from("a"), told.lane_from(house="b")], [there, back])
            self.assertEqual([house in told for house in ("a", "b", "c", "l")], [True, True, False, False])
        for value in [*wrong_kinds(), "c", "l", ("a", "b"), ["a"]]:
            self.assertIs(value in told, False)
            self.refused(("NoHouse", value), told.far_end, value)
            self.refused(("NoHouse", value), told.lane_from, value)

    def test_equal(self):
        links = [link("l", "a", "b"), link("m", "a", "b"), link("l", "b", "a"), link("l", "a", "c"), link("l", "c", "b"),
                 link("l", "a", "b", "y"), link("l", "a", "b", "x", "y")]
        for at, one in enumerate(links):
            self.assertEqual([one == other for other in links], [at == place for place in range(7)])
        self.assertEqual(link("l", "a", "b"), link("l", "a", "b"))
        self.assertFalse([value for value in any_values() if links[0] == value])

    def test_refused(self):
        good = lane()
        for value in [*wrong_kinds(), *WRONG_NAMES]:
            self.refused(("BadName", value), Link, value, value, value, value, value)
            self.refused(("BadNet", "one"), Link, "l", value, value, value, value)
            self.refused(("BadNet", "other"), Link, "l", "a", value, value, value)
        self.refused(("BadNet", "other"), Link, "l", "a", "a", 0, 0)
        for value in without(Lane) + [None]:
            self.refused(("BadNet", "there"), Link, "l", "a", "b", value, value)
            self.refused(("BadNet", "back"), Link, "l", "a", "b", good, value)
        # A link may be called as one of its houses: the net refuses that.
        self.assertEqual(link("a", "a", "b").name, "a")


class FlowTest(Case):

    def test_attributes(self):
        for told in (Flow("x", "a", "b", 3, 9), Flow(timeout=9, most=3, end="b", begin="a", name="x")):
            self.assertEqual((told.name, told.begin, told.end, told.most, told.timeout), ("x", "a", "b", 3, 9))
        told = Flow("x", "a", "b", 199, 10 ** 9)
        self.assertEqual((told.most, told.timeout, Flow("x", "a", "b", 0, 1).timeout), (199, 10 ** 9, 1))

    def test_equal(self):
        flows = [Flow("x", "a", "b", 3, 9), Flow("y", "a", "b", 3, 9), Flow("x", "c", "b", 3, 9), Flow("x", "a", "c", 3, 9),
                 Flow("x", "a", "b", 4, 9), Flow("x", "a", "b", 3, 8)]
        for at, one in enumerate(flows):
            self.assertEqual([one == other for other in flows], [at == place for place in range(6)])
        self.assertEqual(flows[0], Flow("x", "a", "b", 3, 9))
        self.assertFalse([value for value in any_values() if flows[0] == value])

    def test_refused(self):
        for value in [*wrong_kinds(), *WRONG_NAMES]:
            self.refused(("BadName", value), Flow, value, value, value, value, value)
            self.refused(("BadNet", "begin"), Flow, "x", value, value, value, value)
            self.refused(("BadNet", "end"), Flow, "x", "a", value, -1, 0)
        self.refused(("BadNet", "end"), Flow, "x", "a", "a", -1, 0)
        for value in [*wrong_kinds(), 200]:
            self.refused(("BadNumber", value), Flow, "x", "a", "b", value, 0)
        for value in [*wrong_kinds(), 0, 10 ** 9 + 1]:
            self.refused(("BadNumber", value), Flow, "x", "a", "b", 0, value)


class NetTest(Case):

    def test_attributes(self):
        houses, links, flows = ["b", "a"], [link("l", "a", "b")], [Flow("x", "a", "b", 0, 1)]
        told = Net(houses, links, flows, SIMPLE, 32)
        same = Net(size=32, rule=SIMPLE, flows=tuple(flows), links=tuple(links), houses=tuple(houses))
        houses.append("c")
        links.clear()
        flows.clear()
        for net in (told, same):
            self.assertEqual((net.houses, net.rule, net.size), (("b", "a"), SIMPLE, 32))
            self.assertEqual((net.links, net.flows), ((link("l", "a", "b"),), (Flow("x", "a", "b", 0, 1),)))
        self.assertEqual(told, same)

    def test_asked(self):
        chance = dealer(1)
        for _ in range(60):
            net = dealt_net(chance)
            self.assertEqual((len(net), list(net)), (len(net.houses), list(net.houses)))
            names = [*net.houses, *[part.name for part in (*net.links, *net.flows)]]
            self.assertTrue(all([name in net for name in names]))
            for part in net.links:
                self.assertEqual(net.link_named(name=part.name), part)
            for flow in net.flows:
                self.assertEqual(net.flow_named(name=flow.name), flow)
            for one in net.houses:
                near = [house for house in net.houses if joined(net, one, house) is not None and house != one]
                self.assertEqual(net.near(house=one), tuple(sorted(near)))
                for other in net.houses:
                    self.assertEqual(net.between(one=one, other=other), joined(net, one, other))

    def test_asked_for_what_is_not_there(self):
        net = example_net()
        for value in [*wrong_kinds(), "z", "y", ("a", "b"), ["a"]]:
            self.assertIs(value in net, False)
            self.refused(("NoLink", value), net.link_named, value)
            self.refused(("NoFlow", value), net.flow_named, value)
            self.refused(("NoHouse", value), net.near, value)
            self.refused(("NoHouse", value), net.between, value, -1)
            self.refused(("NoHouse", value), net.between, "a", value)
        for name in ("a", "x"):
            self.refused(("NoLink", name), net.link_named, name)
        for name in ("a", "ab"):
            self.refused(("NoFlow", name), net.flow_named, name)
        for name in ("ab", "x"):
            self.refused(("NoHouse", name), net.near, name)
        self.assertEqual([net.between(house, house) for house in net], [None] * 4)

    def test_equal(self):
        told = net_of("abcd", "ab bc cd", [("x", "a", "d"), ("y", "a", "b")])
        others = [net_of("bacd", "ab bc cd", [("x", "a", "d"), ("y", "a", "b")]),
                  net_of("abcd", "ab cd bc", [("x", "a", "d"), ("y", "a", "b")]),
                  net_of("abcd", "ab bc cd", [("y", "a", "b"), ("x", "a", "d")]), net_of("abcd", "ab bc cd"),
                  Net(told.houses, told.links, told.flows, FrameRule("01"), 4),
                  Net(told.houses, told.links, told.flows, SIMPLE, 5)]
        self.assertEqual(told, net_of("abcd", "ab bc cd", [("x", "a", "d"), ("y", "a", "b")]))
        self.assertFalse([other for other in [*others, *any_values()] if told == other])


class OperatorsTest(Case):

    def test_with_a_link_or_a_flow(self):
        net = example_net()
        other = link("bc", "d", "a", "y")
        self.assertEqual((net | other).links, (*net.links[:2], other, *net.links[3:]))
        self.assertEqual((net | link("zz", "a", "d")).links, (*net.links, link("zz", "a", "d")))
        self.assertEqual((net | Flow("x", "b", "c", 1, 2)).flows, (Flow("x", "b", "c", 1, 2),))
        self.assertEqual((net | Flow("y", "b", "c", 1, 2)).flows, (*net.flows, Flow("y", "b", "c", 1, 2)))
        self.assertEqual((net | net.links[0], net | net.flows[0]), (net, net))
        self.assertEqual(net, example_net())

    def test_with_what_the_class_refuses(self):
        net = example_net()
        for value in [value for value in wrong_kinds() if not isinstance(value, (Link, Flow))] + ["ab"]:
            self.refused(("BadNet", "thing"), lambda: net | value)
        self.refused(("NoHouse", "z"), lambda: net | link("ab", "a", "z"))
        self.refused(("NoHouse", "z"), lambda: net | Flow("x", "z", "b", 0, 1))
        for name in ("a", "x"):
            self.refused(("Clashing", name), lambda: net | link(name, "a", "d"))
        for name in ("a", "ab"):
            self.refused(("Clashing", name), lambda: net | Flow(name, "a", "d", 0, 1))
        # The link in the place of an earlier one comes ahead of the one that it clashes with.
        self.refused(("Clashing", "bd"), lambda: net | link("ab", "d", "b"))
        self.refused(("Clashing", "zz"), lambda: net | link("zz", "d", "b"))

    def test_without_a_name(self):
        net = example_net() | Flow("y", "c", "d", 1, 2)
        self.assertEqual((net - "x").flows, (Flow("y", "c", "d", 1, 2),))
        self.assertEqual([part.name for part in (net - "bc").links], ["ab", "ac", "bd", "cd"])
        less = net - "b"
        self.assertEqual((less.houses, [part.name for part in less.links], less.flows), (("a", "c", "d"), ["ac", "cd"], net.flows))
        self.assertEqual((less.rule, less.size), (net.rule, net.size))
        self.refused(("Clashing", "x"), lambda: net - "a")
        self.refused(("Clashing", "x"), lambda: net - "d")
        self.refused(("Clashing", "y"), lambda: net - "c")
        for value in [*wrong_kinds(), "z", "abc", ("a",)]:
            self.refused(("NoName", value), lambda: net - value)
        two = net_of("ab", "ab", [])
        self.refused(("BadNet", "houses"), lambda: two - "a")
        self.assertEqual(len(two - "ab"), 2)
        self.assertEqual(net, example_net() | Flow("y", "c", "d", 1, 2))

    def test_in_place_the_name_is_bound_to_the_result(self):
        net = first = example_net()
        net |= Flow("y", "b", "c", 1, 2)
        self.assertEqual((net.flow_named("y").begin, len(first.flows)), ("b", 1))
        net -= "y"
        self.assertEqual(net, first)
        net -= "bd"
        self.assertEqual((len(net.links), len(first.links)), (4, 5))


class RefusedTest(Case):

    def net(self, houses=("a", "b"), links=(), flows=(), rule=SIMPLE, size=4):
        return Net(houses, links, flows, rule, size)

    def test_houses(self):
        for value in [*wrong_kinds(), "ab", ("a",), ["a"], ("a", "a"), ("a", "b", "a"), ("a", "B"), ("a", None), [["a"], "b"],
                      {"a": 1, "b": 2}, [*"abcdefghijklm"], [*"abcdefghijkla"]]:
            self.refused(("BadNet", "houses"), self.net, value, value, value, value, value)
        self.assertEqual(len(self.net([*"abcdefghijkl"])), 12)
        self.assertEqual(len(self.net(["a", "b"])), 2)

    def test_links_and_flows(self):
        one, flow = link("l", "z", "y"), Flow("x", "z", "y", 0, 1)
        for value in [value for value in wrong_kinds() if value not in ((), [])] + [[one, flow], (one, None), {"l": one}]:
            self.refused(("BadNet", "links"), self.net, links=value, flows=value, rule=None)
        for value in [value for value in wrong_kinds() if value not in ((), [])] + [[flow, one], (flow, None), {"x": flow}]:
            self.refused(("BadNet", "flows"), self.net, links=[one], flows=value, rule=None)

    def test_houses_that_are_none(self):
        good, bad = link("l", "a", "b"), link("l", "a", "z")
        self.refused(("NoHouse", "z"), self.net, links=[good, good, bad], flows=[Flow("l", "y", "a", 0, 1)], size=0)
        self.refused(("NoHouse", "y"), self.net, links=[link("l", "y", "z")])
        self.refused(("NoHouse", "y"), self.net, links=[good, good], flows=[Flow("x", "a", "y", 0, 1)], rule=0)
        self.refused(("NoHouse", "z"), self.net, flows=[Flow("x", "a", "b", 0, 1), Flow("x", "z", "y", 0, 1)])
        self.refused(("NoHouse", "l"), self.net, links=[good, link("m", "a", "l")])

    def test_names_that_came_before(self):
        good, flow = link("l", "a", "b"), Flow("x", "a", "b", 0, 1)
        for links, flows, name in (([link("a", "a", "b")], [flow, flow], "a"), ([good, link("l", "b", "a")], [flow, flow], "l"),
                                   ([good], [flow, flow], "x"), ([good], [Flow("l", "a", "b", 0, 1)], "l"),
                                   ([good], [flow, Flow("b", "a", "b", 0, 1)], "b"), ([good, good], [flow], "l"),
                                   ([good, link("m", "b", "a"), link("b", "a", "b")], [flow], "b")):
            self.refused(("Clashing", name), self.net, links=links, flows=flows, rule=0, size=0)

    def test_houses_that_are_joined_twice(self):
        links = [link("l", "a", "b"), link("m", "b", "c"), link("n", "b", "a"), link("k", "c", "b")]
        self.refused(("Clashing", "n"), self.net, "abc"[:0] or ["a", "b", "c"], links, rule=0)
        self.refused(("Clashing", "k"), self.net, ["a", "b", "c"], [*links[:2], links[3]], rule=0)
        self.refused(("Clashing", "k"), self.net, ["a", "b", "c"], [*links[:2], link("k", "b", "c")], size=0)

    def test_too_many(self):
        houses = [*"abcdefghijkl"]
        links = [link("l" + one + other, one, other) for one, other in combinations(houses, 2)]
        flows = [Flow("x" + name, "a", "b", 0, 1) for name in "abcdefg"]
        self.assertEqual(len(self.net(houses, links[:30], flows[:6]).links), 30)
        self.refused(("TooMany", "links", 30), self.net, houses, links[:31], flows, 0)
        self.refused(("TooMany", "flows", 6), self.net, houses, links[:30], flows, 0)
        self.refused(("TooMany", "links", 30), lambda: self.net(houses, links[:30]) | links[30])
        self.refused(("TooMany", "flows", 6), lambda: self.net(houses, links[:30], flows[:6]) | flows[6])
        self.refused(("Clashing", "lab"), self.net, houses, [*links[:31], links[0]])
        self.assertEqual((self.net(houses, links[:30], flows[:6]) | links[0]).links, tuple(links[:30]))

    def test_rules_and_sizes(self):
        for value in [value for value in wrong_kinds() if not isinstance(value, FrameRule)]:
            self.refused(("BadFrame", "rule"), self.net, rule=value, size=value)
        for value in [*wrong_kinds(), 0, 33]:
            self.refused(("BadCell", "size"), self.net, size=value)
        self.assertEqual([self.net(size=size).size for size in (1, 32)], [1, 32])
