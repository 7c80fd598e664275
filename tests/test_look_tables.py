"""Lookers at ways that are apart and at orders of turned houses: what is right, and what is nearly so."""

from itertools import combinations

from layerpost.exchange import Ranks, any_order
from layerpost.look_tables import shows_any_order, shows_apart
from layerpost.routes import Apart, Cut, apart
from layerpost.tables import Leads, Ring, Stops, Tables
from tests.helpers import Case, any_values, dealer
from tests.nets import are_apart, dealt_net, example_net, link, links_on, net_of, walked_side, walked_ways
from tests.test_exchange import dealt_pair
from tests.test_tables import WAYS


class ShowsApartTest(Case):

    def test_right_papers(self):
        chance = dealer(1)
        found = set()
        for _ in range(300):
            net = dealt_net(chance, many=10)
            answer = apart(net, "x")
            self.assertIs(shows_apart(net, "x", answer), True)
            found.add((type(answer), answer.name in net.houses if isinstance(answer, Cut) else None))
        self.assertEqual(len(found), 3)

    def test_all_pairs_of_ways(self):
        chance = dealer(2)
        many = {True: 0, False: 0}
        for _ in range(40):
            net = dealt_net(chance, most=6, many=10)
            ways = walked_ways(net, "x")[:12]
            for one in ways:
                for other in ways:
                    wanted = are_apart(net, one, other)
                    self.assertIs(shows_apart(net, "x", Apart(one, other)), wanted)
                    many[wanted] += 1
        self.assertGreater(min(many.values()), 50)

    def test_the_longer_way_as_main_or_more_houses(self):
        net = net_of("abcdef", "ab bd ac cd ae ef fd")
        main, spare, long = ("a", "b", "d"), ("a", "c", "d"), ("a", "e", "f", "d")
        for pair in ((main, spare), (spare, main), (long, main), (main, long)):
            self.assertIs(shows_apart(net, flow="x", value=Apart(*pair)), True)
        for pair in ((main, main), (long, long), (main, None), (list(main), spare), (main, ("a", "c")), (("c", "d"), main),
                     (main, ("d", "c", "a")), (main[::-1], spare[::-1]), (main, ()), (main, ("a", "d")), ("abd", "acd")):
            self.assertIs(shows_apart(net, "x", Apart(*pair)), False)
        direct = net | link("ad", "a", "d")
        self.assertIs(shows_apart(direct, "x", Apart(("a", "d"), main)), True)
        self.assertIs(shows_apart(direct, "x", Apart(("a", "d"), ("a", "d"))), False)
        self.assertIs(shows_apart(net | link("ad", "a", "d", "x", "y"), "x", Apart(("a", "d"), main)), False)

    def test_all_names_with_all_sides(self):
        chance = dealer(3)
        many = 0
        for _ in range(60):
            net = dealt_net(chance, most=5, many=6)
            ways = walked_ways(net, "x")
            common = set(net.houses) | {part.name for part in net.links}
            for way in ways:
                common &= set(way[1:-1]) | set(links_on(net, way))
            begin, end = net.flow_named("x").begin, net.flow_named("x").end
            for name in [None, "x", "q", "zz", *net.houses, *[part.name for part in net.links]]:
                side = walked_side(net, "x", name) if name not in (begin, end) else (begin,)
                wanted = name is None if not ways else name in common
                self.assertIs(shows_apart(net, "x", Cut(name, side)), wanted)
                for wrong in self.wrong_sides(net, side):
                    self.assertIs(shows_apart(net, "x", Cut(name, wrong)), False)
                many += wanted
        self.assertGreater(many, 50)

    def wrong_sides(self, net, side):
        """Sides with a house more or fewer, in another order or of another kind."""
        yield from [list(side), side[:-1], side + side[:1], side + ("zz",), None, "".join(side), set(side), ()]
        if len(side) > 1:
            yield from [side[::-1], side[1:] + side[:1]]
        yield from [tuple(sorted([*side, house])) for house in net.houses if house not in side]

    def test_any_name_that_all_ways_have(self):
        net = net_of("abcde", "ab bc cd be ec")
        sides = {"ab": ("a",), "b": ("a",), "c": ("a", "b", "e"), "cd": ("a", "b", "c", "e")}
        for name in ("ab", "b", "c", "cd", "bc", "be", "e", "a", "d", "x", None):
            wanted = name in sides
            self.assertIs(shows_apart(net, "x", Cut(name, sides.get(name, ("a", "b", "c", "e")))), wanted)
        self.assertEqual(apart(net, "x"), Cut("ab", ("a",)))
        self.assertIs(shows_apart(net - "cd", "x", Cut("ab", ("a",))), False)
        self.assertIs(shows_apart(net - "cd", "x", Cut(None, ("a", "b", "c", "e"))), True)

    def test_values_of_all_kinds(self):
        nets = (net_of("abd", "ab bd"), net_of("abcd", "ab bd ac cd"), net_of("ad", ""))
        values = [*any_values(), Leads(("a", "b", "d")), Stops("a"), ("a", "b", "d")]
        for net in nets:
            for value in values:
                self.assertIs(shows_apart(net, "x", value), False)
                for other in (("a", "b", "d"), value, ("a",)):
                    self.assertIs(shows_apart(net, "x", Apart(value, other)), False)
                    self.assertIs(shows_apart(net, "x", Apart(other, value)), False)
                if value is not None:
                    self.assertIs(shows_apart(net, "x", Cut(value, ("a",))), False)
                self.assertIs(shows_apart(net, "x", Cut("b", value)), False)
                self.assertIs(shows_apart(net, "x", Cut(None, value)), False)

    def test_refused(self):
        net = example_net()
        for value in [*any_values(), "x"]:
            self.refused(("BadNet", "net"), shows_apart, value, value, value)
        for value in [*any_values(), "y", "a"]:
            self.refused(("NoFlow", value), shows_apart, net, value, value)


def met_rows(old, new, way):
    """The houses that can be met, each with what both tell there, by the test's own walk."""
    flow = old.net.flow_named("x")
    met, left = {}, [flow.begin]
    while left:
        here = left.pop()
        if here not in met:
            met[here] = [] if here == flow.end else [told[here, "x", way] for told in (old, new)]
            left += [house for house in met[here] if house is not None]
    return met


class ShowsAnyOrderTest(Case):

    def cases(self, seed, many):
        """Pairs of tables, a way, their answer, and what can be met."""
        chance = dealer(seed)
        for _ in range(many):
            old, new = dealt_pair(chance)
            for way in WAYS:
                yield old, new, way, any_order(old, new, "x", way), met_rows(old, new, way)

    def test_right_papers(self):
        found = set()
        for old, new, way, answer, _ in self.cases(4, 120):
            self.assertIs(shows_any_order(old=old, new=new, flow="x", way=way, value=answer), True)
            found.add(type(answer))
        self.assertEqual(found, {Ranks, Ring, Stops})

    def test_each_stop(self):
        many = 0
        for old, new, way, _, met in self.cases(5, 60):
            for house in [*old.net.houses, None, "zz", True, [house for house in met], tuple(met)]:
                wanted = isinstance(house, str) and None in met.get(house, [])
                self.assertIs(shows_any_order(old, new, "x", way, Stops(house)), wanted)
                many += wanted
        self.assertGreater(many, 50)

    def test_rings_begun_elsewhere_turned_about_or_with_others(self):
        many = 0
        for old, new, way, answer, met in self.cases(6, 150):
            if not isinstance(answer, Ring):
                continue
            houses = answer.houses
            for at in range(len(houses)):
                turn = houses[at:] + houses[:at]
                self.assertIs(shows_any_order(old, new, "x", way, Ring(turn)), True)
                others = [turn[::-1], turn + turn, turn + turn[:1], turn[1:], turn[:-1], list(turn), (*turn, None)]
                others += [(*turn, house) for house in old.net.houses] + [(house, *turn[1:]) for house in old.net.houses]
                for other in others:
                    self.assertIs(shows_any_order(old, new, "x", way, Ring(other)), self.is_ring(met, other))
            many += 1
        self.assertGreater(many, 40)

    def is_ring(self, met, houses):
        """Whether each house is told at the one ahead of it."""
        if not isinstance(houses, tuple) or not houses or len(set(houses)) < len(houses):
            return False
        return all([other in met.get(one, []) for one, other in zip(houses, houses[1:] + houses[:1])])

    def test_rings_that_cannot_be_met(self):
        net = net_of("abcd", "ab bc cd bd ad")
        rows = {("a", "x", "first"): "d", ("b", "x", "first"): "c", ("c", "x", "first"): "b", ("d", "x", "first"): "a"}
        tables = Tables(net, rows)
        self.assertEqual(any_order(tables, tables, "x", "first"), Ranks({"a": 1, "d": 0}))
        for houses in (("b", "c"), ("c", "b"), ("a", "d"), ("d", "a"), ("a",), ("d",), ()):
            self.assertIs(shows_any_order(tables, tables, "x", "first", Ring(houses)), False)
        self.assertIs(shows_any_order(tables, tables, "x", "first", Stops("d")), False)
        self.assertIs(shows_any_order(tables, tables, "x", "spare", Stops("a")), True)
        # A ring is right although a house that can be met tells nothing, and the other way round.
        one = Tables(net, {("a", "x", "first"): "b", ("b", "x", "first"): "a"})
        other = Tables(net, {("a", "x", "first"): "b"})
        for value in (Stops("b"), Ring(("a", "b")), Ring(("b", "a"))):
            self.assertIs(shows_any_order(one, other, "x", "first", value), True)

    def test_ranks_raised_left_out_or_put_in(self):
        many = 0
        for old, new, way, answer, met in self.cases(7, 150):
            if not isinstance(answer, Ranks):
                continue
            ranks, many = answer.ranks, many + 1
            for house in ranks:
                others = [{**ranks, house: ranks[house] + more} for more in (-5, -1, 1, 5, 10 ** 30)]
                others += [{**ranks, house: value} for value in (None, True, "1", (1,))]
                others.append({one: rank for one, rank in ranks.items() if one != house})
                for other in others:
                    self.assertIs(shows_any_order(old, new, "x", way, Ranks(other)), self.fall(met, other))
            raised = {house: 7 * rank - 100 for house, rank in ranks.items()}
            self.assertIs(shows_any_order(old, new, "x", way, Ranks(raised)), True)
            rest = {house: -1 for house in old.net.houses if house not in ranks}
            self.assertIs(shows_any_order(old, new, "x", way, Ranks({**rest, **ranks})), True)
        self.assertGreater(many, 30)

    def fall(self, met, ranks):
        """Whether ranks are integers that fall along all that can be met."""
        if not all([type(ranks.get(house)) is int for house in met]):
            return False
        return all([ranks[house] > ranks[other] for house in met for other in met[house]])

    def test_ranks_where_a_house_tells_nothing(self):
        for old, new, way, answer, met in self.cases(8, 60):
            if isinstance(answer, Stops):
                for step in (1, -1):
                    ranks = {house: step * at for at, house in enumerate(met)}
                    self.assertIs(shows_any_order(old, new, "x", way, Ranks(ranks)), False)

    def test_values_of_all_kinds(self):
        net = net_of("abcd", "ab bd ac cd")
        good = Tables.of(net)
        for new in (good, Tables(net), good.laid("x", "first", ("a", "c", "d")),
                    Tables(net, {("a", "x", "first"): "b", ("b", "x", "first"): "a"})):
            for value in [*any_values(), Leads(("a", "b", "d")), Apart((), ()), "a"]:
                self.assertIs(shows_any_order(good, new, "x", "first", value), False)
                self.assertIs(shows_any_order(good, new, "x", "first", Ranks(value)), False)
                self.assertIs(shows_any_order(good, new, "x", "first", Ring(value)), False)
                if value != "a":
                    self.assertIs(shows_any_order(good, new, "x", "first", Stops(value)), False)
        right = any_order(good, good, "x", "first").ranks
        for wrong in ({**right, "z": 1}, {**right, 1: 1}, {**right, "c": None}, {**right, "c": True}, list(right.items())):
            self.assertIs(shows_any_order(good, good, "x", "first", Ranks(wrong)), False)
        self.assertIs(shows_any_order(good, good, "x", "first", Ranks({**right, "c": 9})), True)

    def test_refused(self):
        net = example_net()
        old, other = Tables(net), Tables(net - "bd")
        for value in [*any_values(), net]:
            self.refused(("BadTable", "old"), shows_any_order, value, value, value, value, value)
        for value in [*any_values(), other]:
            self.refused(("BadTable", "new"), shows_any_order, old, value, value, value, value)
        for value in [*any_values(), "y"]:
            self.refused(("NoFlow", value), shows_any_order, old, old, value, value, value)
        for value in [*any_values(), "third"]:
            self.refused(("BadTable", "way"), shows_any_order, old, old, "x", value, value)

    def test_all_pairs_of_two_houses_as_rings(self):
        for old, new, way, _, met in self.cases(9, 30):
            for pair in combinations(old.net.houses, 2):
                self.assertIs(shows_any_order(old, new, "x", way, Ring(pair)), self.is_ring(met, pair))
