"""Exchanges of tables: benches against lists that the test keeps itself, orders against all sets of turned houses."""

from copy import deepcopy
from itertools import permutations, product

from layerpost.exchange import Bench, Ranks, any_order, mixed, safe_order
from layerpost.nets import Flow
from layerpost.tables import Leads, Ring, Stops, Tables, leads
from layerpost.verdicts import Verdict
from tests.helpers import Case, any_values, dealer, error_of
from tests.nets import dealt_net, example_net, net_of
from tests.test_tables import WAYS, all_triples, dealt_rows


class SlowBench:
    """What each house keeps, as lists and dicts of rows; a deed is refused by the words of its error."""

    def __init__(self, tables):
        self.net = tables.net
        self.kept = {house: [self.at(tables, house), None] for house in self.net.houses}
        self.hues = {flow.name: 0 for flow in self.net.flows}
        self.old, self.offered = 0, None

    def at(self, tables, house):
        """The rows at a house."""
        return {key: other for key, other in tables if key[0] == house}

    def needed(self, flow):
        """The houses of the ways of a flow that the offered tables lead."""
        told = [leads(self.offered, flow, way) for way in WAYS]
        return {house for answer in told if isinstance(answer, Leads) for house in answer.houses}

    def refusal(self, word, what):
        """The error of a deed, None if it is let."""
        new = 1 - self.old
        lacking = [house for house in self.net.houses if self.kept[house][new] is None]
        if word == "offer":
            return ("Clashing", "offer") if self.offered is not None else None
        if self.offered is None:
            return ("Clashing", word)
        if word == "give":
            return ("Clashing", "give") if self.kept[what][new] is not None else None
        if word == "turn":
            if self.hues[what] == new:
                return ("Clashing", "turn")
            return ("Clashing", "early") if self.needed(what) & set(lacking) else None
        if self.kept[what][self.old] is None:
            return ("Clashing", "drop")
        return ("Clashing", "early") if lacking or set(self.hues.values()) - {new} else None

    def do(self, word, what):
        if word == "offer":
            self.offered = what
        elif word == "give":
            self.kept[what][1 - self.old] = self.at(self.offered, what)
        elif word == "turn":
            self.hues[what] = 1 - self.old
        else:
            self.kept[what][self.old] = None
            if not [rows for rows in self.kept.values() if rows[self.old] is not None]:
                self.old, self.offered = 1 - self.old, None

    def told(self):
        """All that can be asked."""
        return [[hue, key, (self.kept[key[0]][hue] or {}).get(key)] for hue in (0, 1) for key in all_triples(self.net)], self.hues

    def state(self):
        return self.kept, self.hues, self.old, self.offered and list(self.offered)


def asked(bench, net):
    """All that a bench tells."""
    rows = [[hue, key, bench.next_house(*key, hue)] for hue in (0, 1) for key in all_triples(net)]
    return rows, {flow.name: bench.hue_of(flow.name) for flow in net.flows}


class BenchTest(Case):

    def test_against_lists(self):
        chance = dealer(1)
        over = 0
        for _ in range(40):
            net = self.dealt(chance)
            over += self.lead(net, chance)
        self.assertGreater(over, 60)

    def dealt(self, chance):
        net = dealt_net(chance, most=4, own=1)
        if chance.random() < .3:
            net = net - "q"
        return net

    def lead(self, net, chance):
        """Many deeds, let and refused, and steps back; how many exchanges are over at the end."""
        sheets = [Tables(net, dealt_rows(net, chance, .9)) for _ in range(3)]
        bench, slow, past, over = Bench(sheets[0]), SlowBench(sheets[0]), [], 0
        for _ in range(120):
            word = chance.choice(("offer", "give", "give", "give", "turn", "turn", "drop", "drop", "drop", "undo"))
            what = chance.choice({"offer": sheets, "turn": [flow.name for flow in net.flows] or [None]}.get(word, net.houses))
            if word == "undo" and chance.random() < .6 or what is None:
                continue
            if word == "undo" and past:
                told, slow = past.pop()
                self.assertEqual(bench.undo(), told)
            elif word == "undo":
                self.refused(("Nothing",), bench.undo)
            else:
                error = slow.refusal(word, what)
                self.assertEqual(error_of(getattr(bench, word), what), error)
                if error is None:
                    past.append((word, deepcopy(slow)))
                    slow.do(word, what)
                    over += word == "drop" and slow.offered is None
            self.assertEqual((asked(bench, net), bench.deeds), (slow.told(), len(past)))
        self.back(bench, net, past)
        return over

    def back(self, bench, net, past):
        """All states once more, backwards."""
        while past:
            told, slow = past.pop()
            self.assertEqual((bench.undo(), asked(bench, net), bench.deeds), (told, slow.told(), len(past)))
        self.refused(("Nothing",), bench.undo)

    def test_several_exchanges(self):
        net = net_of("abcd", "ab ac bd cd")
        old = Tables.of(net)
        new = old.laid("x", "first", ("a", "c", "d")).laid("x", "spare", ("a", "b", "d"))
        bench = Bench(tables=old)
        for turn, (told, hue) in enumerate([(new, 1), (old, 0), (new, 1), (new, 0)]):
            self.assertIsNone(bench.offer(tables=told))
            for house in "dcba":
                self.assertIsNone(bench.give(house=house))
            self.assertIsNone(bench.turn(flow="x"))
            self.assertEqual(bench.hue_of(flow="x"), hue)
            for house in "bacd":
                self.refused(("Clashing", "offer"), bench.offer, told)
                self.assertIsNone(bench.drop(house=house))
                self.assertIsNone(bench.next_house(house=house, flow="x", way="first", hue=1 - hue))
            self.assertEqual([bench.next_house(*key, hue) for key in all_triples(net)], [told[key] for key in all_triples(net)])
            self.assertEqual(bench.deeds, 10 * (turn + 1))
        self.assertEqual([bench.undo() for _ in range(11)], ["drop"] * 4 + ["turn"] + ["give"] * 4 + ["offer", "drop"])

    def test_turn_asks_the_houses_of_ways_that_are_led(self):
        net = net_of("abcde", "ab bd ac cd ae de")
        tables = Tables.of(net)
        for told, needed in ((tables, "abcd"), (tables.laid("x", "spare", ("a", "e", "d")), "abde"), (Tables(net), ""),
                             (Tables(net).laid("x", "spare", ("a", "e", "d")), "ade"),
                             (Tables(net, {("a", "x", "first"): "b", ("b", "x", "first"): "a"}), "")):
            for lacking in needed:
                bench = Bench(Tables(net))
                bench.offer(told)
                [bench.give(house) for house in net.houses if house != lacking]
                self.refused(("Clashing", "early"), bench.turn, "x")
            bench = Bench(Tables(net))
            bench.offer(told)
            [bench.give(house) for house in needed]
            bench.turn("x")
            self.assertEqual(bench.hue_of("x"), 1)

    def test_equal(self):
        chance = dealer(2)
        net = net_of("abd", "ab ad bd")
        sheets = [Tables(net), Tables.of(net), Tables(net, {("a", "x", "spare"): "d"})]
        states = []
        for _ in range(50):
            first = chance.choice(sheets[:2])
            bench, slow = Bench(first), SlowBench(first)
            for _ in range(chance.randint(0, 40)):
                word = chance.choice(("offer", "give", "turn", "drop"))
                what = chance.choice(sheets) if word == "offer" else "x" if word == "turn" else chance.choice(net.houses)
                if error_of(getattr(bench, word), what) is None:
                    slow.do(word, what)
            states.append((bench, slow.state()))
        for one, told in states:
            self.assertEqual([one == other for other, _ in states], [told == state for _, state in states])
        self.assertFalse([value for value in [*any_values(), net, sheets[0]] if states[0][0] == value])

    def test_what_can_be_taken_back_plays_no_part(self):
        net = example_net()
        bench = Bench(Tables(net))
        bench.offer(Tables(net))
        bench.give("a")
        self.assertFalse(bench == Bench(Tables(net)))
        bench.undo()
        bench.undo()
        self.assertEqual(bench, Bench(Tables(net)))
        # Old rows that are forgotten play no part, whatever they told.
        ends = []
        for rows in ({("b", "x", "first"): "d"}, {("b", "x", "first"): "c"}):
            bench = Bench(Tables(net, rows))
            bench.offer(Tables(net))
            [bench.give(house) for house in "abcd"]
            bench.turn("x")
            ends.append(bench)
        self.assertFalse(ends[0] == ends[1])
        [bench.drop("b") for bench in ends]
        self.assertTrue(ends[0] == ends[1])

    def test_benches_of_other_nets_and_of_the_other_hue(self):
        net = net_of("ad", "ad")
        longer = net | Flow("x", "a", "d", 5, 90)
        self.assertFalse(Bench(Tables(net)) == Bench(Tables(longer)))
        # One has turned and is to drop the hue 0, the other one is to turn from 1; what they keep and take is the same.
        one, other = self.all_given(Bench(Tables(net))), self.all_given(Bench(Tables(net)))
        for bench in (one, other):
            bench.turn("x")
        for house in net.houses:
            other.drop(house)
        self.all_given(other)
        self.assertEqual(asked(one, net), asked(other, net))
        self.assertFalse(one == other)
        self.assertIsNone(one.drop("a"))
        self.refused(("Clashing", "early"), other.drop, "a")

    def all_given(self, bench):
        """The bench, behind an offer of nothing that all houses of this net have got."""
        bench.offer(Tables(net_of("ad", "ad")))
        bench.give("a")
        bench.give("d")
        return bench

    def test_refused(self):
        net = example_net()
        tables = Tables.of(net)
        for value in [*any_values(), net]:
            self.refused(("BadTable", "tables"), Bench, value)
        bench = Bench(tables)
        for is_offered in (False, True):
            for value in [*any_values(), Tables(net - "bd"), net]:
                self.refused(("BadTable", "tables"), bench.offer, value)
            for value in [*any_values(), "z", "ab", "x"]:
                self.refused(("NoHouse", value), bench.give, value)
                self.refused(("NoHouse", value), bench.drop, value)
                self.refused(("BadTable", "place"), bench.next_house, value, "x", "first", 2)
            for value in [*any_values(), "a", "y"]:
                self.refused(("NoFlow", value), bench.turn, value)
                self.refused(("NoFlow", value), bench.hue_of, value)
                self.refused(("BadTable", "place"), bench.next_house, "a", value, "first", 2)
                self.refused(("BadTable", "place"), bench.next_house, "a", "x", value, 2)
            for value in [*any_values(), 2]:
                self.refused(("BadNumber", value), bench.next_house, "a", "x", "first", value)
            if not is_offered:
                for word, what in (("give", "a"), ("turn", "x"), ("drop", "a")):
                    self.refused(("Clashing", word), getattr(bench, word), what)
                bench.offer(tables)
        # Done already comes ahead of too early, and too early behind nothing else.
        bench.give("a")
        self.refused(("Clashing", "give"), bench.give, "a")
        self.refused(("Clashing", "early"), bench.drop, "a")
        self.refused(("Clashing", "early"), bench.turn, "x")
        self.assertEqual((bench.deeds, bench.undo(), bench.undo()), (2, "give", "offer"))
        self.refused(("Nothing",), bench.undo)
        self.assertEqual((bench, bench.deeds), (Bench(tables), 0))


def mixes(old, new):
    """All tables that come up, by a set of turned houses each, by the test's own rows."""
    net = old.net
    for chosen in product((False, True), repeat=len(net)):
        turned = [house for house, is_new in zip(net.houses, chosen) if is_new]
        rows = {key: (new if key[0] in turned else old)[key] for key in all_triples(net)}
        yield turned, {key: house for key, house in rows.items() if house is not None}


def moments(old, new, flow, way):
    """How letters can end if houses turn at any moments: at the end, stopped at a house, or at a house twice."""
    told = old.net.flow_named(flow)
    ends, left, seen = set(), [((told.begin,), frozenset())], set()
    while left:
        met, turned = left.pop()
        if (met, turned) in seen:
            continue
        seen.add((met, turned))
        here = met[-1]
        if here == told.end:
            ends.add("end")
        elif here in met[:-1]:
            ends.add("twice")
        else:
            left += [(met, turned | {house}) for house in old.net.houses]
            house = (new if here in turned else old)[here, flow, way]
            if house is None:
                ends.add(here)
            else:
                left.append(((*met, house), turned))
    return ends


def dealt_pair(chance, most=5):
    """Two tables of one net, the second one often much like the first."""
    net = dealt_net(chance, most=most, own=1)
    old = dealt_rows(net, chance, .9)
    new = dealt_rows(net, chance, .95)
    if chance.random() < .5:
        new = {**old, **dict(list(new.items())[:2])}
    return Tables(net, old), Tables(net, new)


class OrderTest(Case):

    def test_mixed(self):
        chance = dealer(3)
        for _ in range(40):
            old, new = dealt_pair(chance, 4)
            for turned, rows in mixes(old, new):
                chance.shuffle(turned)
                self.assertEqual(mixed(old, new, *turned), Tables(old.net, rows))
                self.assertEqual(mixed(old, new, *turned, *turned), Tables(old.net, rows))
        self.assertEqual((mixed(old, new), mixed(old, new, *old.net.houses)), (old, new))

    def test_any_order_against_all_sets_of_turned_houses(self):
        chance = dealer(4)
        found = set()
        for _ in range(200):
            old, new = dealt_pair(chance)
            for way in WAYS:
                answer = any_order(old=old, new=new, flow="x", way=way)
                self.right(old, new, way, answer)
                found.add(type(answer))
        self.assertEqual(found, {Ranks, Stops, Ring})

    def right(self, old, new, way, answer):
        """The answer is as all mixed tables tell."""
        told = [leads(Tables(old.net, rows), "x", way) for _, rows in mixes(old, new)]
        stops = [one.house for one in told if isinstance(one, Stops)]
        rings = [one.houses for one in told if isinstance(one, Ring)]
        self.assertIs(bool(answer), not stops and not rings)
        if stops:
            self.assertEqual(answer, Stops(min(stops)))
        elif rings:
            turns = [answer.houses[at:] + answer.houses[:at] for at in range(len(answer.houses))]
            self.assertTrue([ring for ring in rings if ring in turns])
            self.assertEqual(any_order(old, new, "x", way), answer)
        else:
            self.assertEqual(answer, Ranks(self.ranks(old, new, way)))

    def ranks(self, old, new, way):
        """The most houses behind each one that can be met, over all walks by rows of either."""
        end, ranks, left = old.net.flow_named("x").end, {}, [(old.net.flow_named("x").begin,)]
        while left:
            met = left.pop()
            if met[-1] != end:
                left += [(*met, told[met[-1], "x", way]) for told in (old, new)]
            else:
                for at, house in enumerate(met[::-1]):
                    ranks[house] = max(at, ranks.get(house, 0))
        return ranks

    def test_any_order_at_all_moments(self):
        chance = dealer(5)
        found = set()
        for _ in range(60):
            old, new = dealt_pair(chance, 4)
            answer, ends = any_order(old, new, "x", "first"), moments(old, new, "x", "first")
            self.assertIs(bool(answer), ends == {"end"})
            if isinstance(answer, Stops):
                self.assertIn(answer.house, ends)
            elif isinstance(answer, Ring):
                self.assertIn("twice", ends)
            found.add(type(answer))
        self.assertEqual(found, {Ranks, Stops, Ring})

    def test_safe_order_leads_at_each_moment(self):
        chance = dealer(6)
        many = [0, 0]
        for _ in range(200):
            old, new = dealt_pair(chance)
            for way in WAYS:
                order = safe_order(old=old, new=new, flow="x", way=way)
                before, behind = leads(old, "x", way), leads(new, "x", way)
                many[order is not None] += 1
                if not before or not behind:
                    self.assertIsNone(order)
                    continue
                others = sorted(set(old.net.houses) - set(behind.houses))
                self.assertEqual(order, (*reversed(behind.houses), *others))
                for at in range(len(order) + 1):
                    self.assertTrue(leads(mixed(old, new, *order[:at]), "x", way))
        self.assertGreater(min(many), 50)

    def test_other_orders_need_not_be_safe(self):
        net = net_of("abcd", "ab bc cd ac bd")
        old, new = Tables(net).laid("x", "first", tuple("abcd")), Tables(net).laid("x", "first", tuple("acbd"))
        self.assertEqual(set(any_order(old, new, "x", "first").houses), set("bc"))
        unsafe = [order for order in permutations("abcd") if not all([leads(mixed(old, new, *order[:at]), "x", "first")
                                                                      for at in range(5)])]
        self.assertNotIn(safe_order(old, new, "x", "first"), unsafe)
        self.assertEqual(safe_order(old, new, "x", "first"), ("d", "b", "c", "a"))
        self.assertEqual(len([order for order in unsafe if order.index("c") < order.index("b")]), 12)

    def test_refused(self):
        net = example_net() | Flow("y", "b", "c", 0, 1)
        old, other = Tables(net), Tables(net - "y")
        for value in [*any_values(), net]:
            self.refused(("BadTable", "old"), mixed, value, value, value)
            for work in (any_order, safe_order):
                self.refused(("BadTable", "old"), work, value, value, value, value)
        for value in [*any_values(), net, other]:
            self.refused(("BadTable", "new"), mixed, old, value, value)
            for work in (any_order, safe_order):
                self.refused(("BadTable", "new"), work, old, value, value, value)
        for value in [*any_values(), "z", "x", "ab", ("a",)]:
            self.refused(("NoHouse", value), mixed, old, old, "a", value, -1)
        for value in [*any_values(), "z", "a"]:
            for work in (any_order, safe_order):
                self.refused(("NoFlow", value), work, old, old, value, value)
        for value in [*any_values(), "third"]:
            for work in (any_order, safe_order):
                self.refused(("BadTable", "way"), work, old, old, "y", value)

    def test_papers(self):
        for value in any_values():
            self.assertEqual((Ranks(value), vars(Ranks(value)), bool(Ranks(value))), (Ranks(ranks=value), {"ranks": value}, True))
            self.assertIsInstance(Ranks(value), Verdict)
            self.assertFalse(Ranks(value) == Ranks(7) or Ranks(value) == value or Ranks(value) == Leads(value))
