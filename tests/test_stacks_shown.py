"""What only gets better, what is alike, and stacks as lanes of nets and of plays."""

from layerpost.bounds import lane_growth, lane_shares, way_growth, worst_run
from layerpost.compared import better, order
from layerpost.least_stacks import frontier
from layerpost.nets import Flow, Lane, Link, Net
from layerpost.plans import Plan
from layerpost.player import Player
from layerpost.rounds import Round
from layerpost.stacks import Stack
from layerpost.tables import Tables
from tests.helpers import Case, dealer
from tests.test_bounds import FRAMES, LINES, RINGS, dealt_lane
from tests.test_least_stacks import stacks


def lane_of(told):
    """The lane of a stack."""
    return Lane(told.ring, told.travel, told.plan, told.rule)


def stack_of(net, lane):
    """The stack that the flow x meets on a lane."""
    return Stack(net.rule, net.size, lane.plan, lane.rule, lane.ring, "x", lane.travel)


def net_with(told, chance=None):
    """A net whose lane from a to b is that of a stack, and the tables of the ways a b z and a c z."""
    lane = Lane(Round("x")) if chance is None else dealt_lane(chance)
    other = Lane(Round("x"), 1) if chance is None else dealt_lane(chance)
    links = [Link("ab", "a", "b", lane_of(told), Lane(Round("x"))), Link("bz", "b", "z", lane, Lane(Round("x"))),
             Link("ac", "a", "c", other, Lane(Round("x"))), Link("cz", "z", "c", Lane(Round("x")), lane)]
    net = Net(list("abcz"), links, [Flow("x", "a", "z", 9, 10 ** 5)], told.frames, told.size)
    return Tables(net).laid("x", "first", tuple("abz")).laid("x", "spare", tuple("acz"))


class BetterTest(Case):

    def never_later(self, one, other):
        self.assertTrue(better(one, other), [one.hop.told, other.hop.told])
        self.assertTrue(one.hop.at_most(other.hop))

    def test_a_part_that_is_better(self):
        chance = dealer(1)
        for told in stacks(2, 40):
            for place in [place for place, slot in enumerate(told.ring) if slot != "x"]:
                self.never_later(told.but(ring=told.ring.with_slot(place, "x")), told)
            for size in (told.size + 1, 2 * told.size, 32):
                self.never_later(told.but(size=size), told)
            if told.travel:
                self.never_later(told.but(travel=chance.randrange(told.travel)), told)
            less = Stack(told.frames, told.size, told.plan, chance.choice([rule for _, rule in LINES if rule.within(told.rule)]),
                         told.ring, "x", told.travel)
            self.never_later(less, told)

    def test_what_is_alike(self):
        chance = dealer(3)
        for told in stacks(4, 40):
            self.assertEqual(order(told, told.but(ring=told.ring << chance.randint(1, 5))), "alike")
            self.assertEqual(order(told, told.but(ring=told.ring * 2)), "alike")
            phases = told.plan.phases
            if len(phases) <= 2:
                self.assertEqual(order(told, told.but(plan=Plan(*phases, *phases))), "alike")
            turn = chance.randrange(len(phases))
            self.assertEqual(order(told, told.but(plan=Plan(*phases[turn:], *phases[:turn]))), "alike")
            self.assertEqual(frontier((1, told.but(ring=told.ring * 2)), (1, told)), (0,))


class InNetsTest(Case):

    def test_a_hop_is_what_its_lane_adds(self):
        chance = dealer(5)
        for told in stacks(6, 25):
            tables = net_with(told, chance)
            net = tables.net
            for length in (0, 1, 5, 9, 10 ** 30):
                ab, bz = lane_shares(tables, "x", length)
                self.assertEqual((ab[0], ab[2]), ("ab", told.hop(length)))
                other = stack_of(net, net.link_named("bz").there)
                self.assertEqual((bz[0], bz[2]), ("bz", other.delay_of(length)))
                growth = way_growth(tables, "x")
                self.assertEqual(growth(length), told.hop(length) + other.hop(length))
            growth = lane_growth(net, "ab", "a", "x")
            self.assertEqual(told.hop(4), growth(ab[1] if length == 4 else lane_shares(tables, "x", 4)[0][1]))

    def test_lanes_of_one_kind(self):
        for told in stacks(7, 15):
            names = "abcdz"
            links = [Link(one + other, one, other, lane_of(told), Lane(Round("x"))) for one, other in zip(names, names[1:])]
            links.append(Link("az", "a", "z", Lane(Round("x")), Lane(Round("x"))))
            tables = Tables(Net(list(names), links, [Flow("x", "a", "z", 9, 10 ** 6)], told.frames, told.size))
            tables = tables.laid("x", "first", tuple(names)).laid("x", "spare", ("a", "z"))
            growth = way_growth(tables, "x")
            for length in (0, 3, 9, 10 ** 20):
                self.assertEqual(growth(length), told.delay_of(length, 4))

    def test_a_better_stack_in_the_place_of_a_lane(self):
        chance, found = dealer(8), 0
        for told in stacks(9, 50):
            plan, rule = chance.choice(LINES)
            other = told.but(plan=plan, rule=rule, ring=Round.read(chance.choice(RINGS)), travel=chance.randint(0, 9))
            if order(told, other) in ("better", "alike"):
                found += 1
                for length in (0, 5, 9):
                    self.assertTrue(way_growth(net_with(told), "x").at_most(way_growth(net_with(other), "x")))
        self.assertGreater(found, 5)

    def test_by_plays(self):
        chance = dealer(10)
        for told in stacks(11, 25):
            net = net_with(told).net
            lane = Lane(Round("x"))
            links = [Link("az", "a", "z", lane_of(told), lane), net.link_named("ac"), net.link_named("cz")]
            tables = Tables(Net(list("acz"), links, [Flow("x", "a", "z", 9, 10 ** 4)], chance.choice(FRAMES[:2]), told.size))
            tables = tables.laid("x", "first", ("a", "z")).laid("x", "spare", tuple("acz"))
            told = stack_of(tables.net, tables.net.link_named("az").there)
            length = chance.randint(0, 9)
            met = worst_run(tables, "x", length)
            player = Player(met.run, tables)
            player.go(met.there + 1)
            self.assertEqual(player.ticks_of("x")[-1], told.delay_of(length))
            self.assertEqual(player.handed("x")[-1], met.letter)
