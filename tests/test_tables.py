"""Tables: what each triple tells, by lists that the test keeps itself; and where tables lead."""

from layerpost.routes import Apart, apart
from layerpost.tables import Leads, Ring, Stops, Tables, leads
from layerpost.verdicts import Verdict
from tests.helpers import Case, any_values, dealer
from tests.nets import are_apart, dealt_net, example_net, joined, link, net_of, walked_ways

WAYS = ("first", "spare")


def all_triples(net):
    """All triples of a house, a flow and a way, ascending."""
    return sorted([(house, flow.name, way) for house in net.houses for flow in net.flows for way in WAYS])


def near(net, house):
    """The houses that a link joins to a house."""
    return [other for other in net.houses if other != house and joined(net, house, other) is not None]


def dealt_rows(net, chance, told=.7):
    """Next houses by chance, in any order."""
    keys = all_triples(net)
    chance.shuffle(keys)
    return {key: chance.choice(near(net, key[0])) for key in keys if near(net, key[0]) and chance.random() < told}


def wrong_triples(net):
    """Values that can be keys and are no triple of the example net."""
    return [None, True, -1, "a", "~" * 4000, (), ("a",), ("a", "x"), ("a", "x", "first", "b"), ("z", "x", "first"),
            ("ab", "x", "first"), ("a", "y", "first"), ("a", "a", "first"), ("a", "x", "third"), ("a", "x", None),
            (True, "x", "first"), ("a", None, "first"), ("x", "a", "first"), (("a",), "x", "first"), net.links[0].name]


class TablesTest(Case):

    def test_what_each_triple_tells(self):
        chance = dealer(1)
        for _ in range(60):
            net = dealt_net(chance, most=6)
            rows = dealt_rows(net, chance)
            tables = Tables(net, rows)
            self.assertEqual(tables.net, net)
            self.assertEqual([tables[key] for key in all_triples(net)], [rows.get(key) for key in all_triples(net)])
            self.assertEqual((len(tables), list(tables)), (len(rows), sorted(rows.items())))
            self.assertEqual(tables, Tables(rows=dict(reversed(list(rows.items()))), net=net))
        house, flow, way = "a", "x", "spare"
        self.assertEqual(Tables(example_net(), {(house, flow, way): "c"})[house, flow, way], "c")

    def test_nothing_told(self):
        net = example_net()
        for tables in (Tables(net), Tables(net, None), Tables(net, {}), Tables(net=net)):
            self.assertEqual((len(tables), list(tables), tables), (0, [], Tables(net)))
            self.assertEqual([tables[key] for key in all_triples(net)], [None] * 8)

    def test_it_keeps_its_rows(self):
        rows = {("a", "x", "first"): "b"}
        tables = Tables(example_net(), rows)
        rows[("b", "x", "first")] = "d"
        rows[("a", "x", "first")] = "c"
        self.assertEqual(list(tables), [(("a", "x", "first"), "b")])

    def test_laid(self):
        chance = dealer(2)
        many = 0
        for _ in range(150):
            net = dealt_net(chance, most=6)
            rows = dealt_rows(net, chance)
            tables = Tables(net, rows)
            for houses in walked_ways(net, "x")[:4]:
                way = chance.choice(WAYS)
                wanted = {key: house for key, house in rows.items() if key[1:] != ("x", way)}
                wanted.update({(one, "x", way): other for one, other in zip(houses, houses[1:])})
                after = tables.laid(flow="x", way=way, houses=houses)
                self.assertEqual((after, list(after)), (Tables(net, wanted), sorted(wanted.items())))
                self.assertEqual(leads(after, "x", way), Leads(houses))
                many += 1
            self.assertEqual(tables, Tables(net, rows))
        self.assertGreater(many, 100)

    def test_both(self):
        chance = dealer(3)
        for _ in range(60):
            net = dealt_net(chance, most=5)
            one, other = dealt_rows(net, chance, .5), dealt_rows(net, chance, .5)
            first, second = Tables(net, one), Tables(net, other)
            self.assertEqual(first | second, Tables(net, {**one, **other}))
            self.assertEqual((first | first, first | Tables(net), Tables(net) | first), (first, first, first))
            self.assertEqual((first, second), (Tables(net, one), Tables(net, other)))

    def test_in_place_the_name_is_bound_to_the_result(self):
        net = example_net()
        tables = first = Tables(net, {("a", "x", "first"): "b"})
        tables |= Tables(net, {("a", "x", "first"): "c"})
        self.assertEqual((tables["a", "x", "first"], first["a", "x", "first"]), ("c", "b"))

    def test_equal(self):
        net = example_net()
        told = [Tables(net), Tables(net, {("a", "x", "first"): "b"}), Tables(net, {("a", "x", "first"): "c"}),
                Tables(net, {("a", "x", "spare"): "b"}), Tables(net - "bd"), Tables(net - "bd", {("a", "x", "first"): "b"})]
        for at, one in enumerate(told):
            self.assertEqual([one == other for other in told], [at == place for place in range(6)])
        self.assertEqual(told[1], Tables(example_net(), {("a", "x", "first"): "b"}))
        self.assertFalse([value for value in [*any_values(), net] if told[0] == value])

    def test_of(self):
        chance = dealer(4)
        found = set()
        for _ in range(80):
            net = dealt_net(chance, most=6, own=.97) - "q"
            ways = walked_ways(net, "x")
            if not [1 for one in ways for other in ways if are_apart(net, one, other)]:
                self.refused(("Clashing", "x"), Tables.of, net)
                found.add("cut")
                continue
            tables, told = Tables.of(net=net), apart(net, "x")
            self.assertIsInstance(told, Apart)
            self.assertEqual([leads(tables, "x", way).houses for way in WAYS], [told.main, told.spare])
            self.assertEqual(len(tables), len(told.main) + len(told.spare) - 2)
            found.add("apart")
        self.assertEqual(len(found), 2)

    def test_of_several_flows(self):
        net = net_of("abcd", "ab ac bd cd", [("x", "a", "d"), ("y", "d", "a")])
        self.refused(("Clashing", "y"), Tables.of, net)
        self.refused(("Clashing", "x"), Tables.of, net - "bd")
        self.assertEqual(len(Tables.of(net - "y")), 4)
        self.assertEqual(Tables.of(net_of("abcd", "ab", [])), Tables(net_of("abcd", "ab", [])))


class RefusedTest(Case):

    def test_nets_and_rows(self):
        for value in [*any_values(), "abcd", Tables(example_net())]:
            self.refused(("BadNet", "net"), Tables, value, value)
            self.refused(("BadNet", "net"), Tables.of, value)
        for value in [*any_values(), Tables(example_net()), [(("a", "x", "first"), "b")]]:
            if value is not None and not isinstance(value, dict):
                self.refused(("BadTable", "rows"), Tables, example_net(), value)

    def test_the_first_wrong_key_or_value(self):
        net, good = example_net(), {("a", "x", "first"): "b", ("d", "x", "spare"): "c"}
        for key in wrong_triples(net):
            self.refused(("BadTable", key), Tables, net, {**good, key: "b", 0: "b"})
            self.refused(("BadTable", "place"), lambda: Tables(net, good)[key])
        for value in [*any_values(), "a", "d", "z", "ab", "x", ("b",), ["b"]]:
            self.refused(("BadTable", ("a", "x", "spare")), Tables, net, {**good, ("a", "x", "spare"): value, 0: 0})
        for value in any_values():
            self.refused(("BadTable", "place"), lambda: Tables(net)[value])
        for value in (["a", "x", "first"], ("a", "x", ["first"]), ({}, "x", "first")):
            self.refused(("BadTable", "place"), lambda: Tables(net)[value])
        self.refused(("BadTable", 0), Tables, net, {0: 0, ("a", "x", "first"): "z"})

    def test_laid(self):
        net = example_net()
        tables, way = Tables(net), ("a", "b", "d")
        for value in [*any_values(), "y", "a", ("x",)]:
            self.refused(("NoFlow", value), tables.laid, value, value, value)
        for value in [*any_values(), "third", "", ("first",)]:
            self.refused(("BadTable", "way"), tables.laid, "x", value, value)
        for value in [*any_values(), list(way), ("a", "d"), ("d", "b", "a"), ("a", "b"), ("a", "b", "a", "c", "d"), "abd"]:
            self.refused(("BadTable", "houses"), tables.laid, "x", "first", value)
        other = net_of("abd", "ab bd") | link("ad", "a", "d", "x", "y")
        self.refused(("BadTable", "houses"), Tables(other).laid, "x", "first", ("a", "d"))

    def test_other(self):
        net = example_net()
        for value in [*any_values(), net, Tables(net - "bd"), {}]:
            self.refused(("BadTable", "other"), lambda: Tables(net) | value)


class LeadsTest(Case):

    def test_against_following(self):
        chance = dealer(5)
        found = set()
        for _ in range(150):
            net = dealt_net(chance, most=6)
            rows = dealt_rows(net, chance, .85)
            tables = Tables(net, rows)
            for flow in net.flows:
                for way in WAYS:
                    answer = leads(tables=tables, flow=flow.name, way=way)
                    self.assertEqual(answer, self.followed(rows, flow, way))
                    self.assertIs(bool(answer), isinstance(answer, Leads))
                    found.add(type(answer))
        self.assertEqual(found, {Leads, Ring, Stops})

    def followed(self, rows, flow, way):
        """Where rows lead, as far as ever a letter goes."""
        met, here = [], flow.begin
        for _ in range(30):
            met.append(here)
            if here == flow.end:
                return Leads(tuple(met))
            if (here, flow.name, way) not in rows:
                return Stops(here)
            here = rows[here, flow.name, way]
        # By then it goes round: from the first house that comes again on.
        first = next(at for at, house in enumerate(met) if house in met[at + 1:])
        return Ring(tuple(met[first:met.index(met[first], first + 1)]))

    def test_by_hand(self):
        net = example_net()
        for told, answer in (({}, Stops("a")), ({"a": "b"}, Stops("b")), ({"a": "b", "b": "a"}, Ring(("a", "b"))),
                             ({"a": "b", "b": "c", "c": "b"}, Ring(("b", "c"))), ({"a": "b", "b": "d", "d": "b"}, Leads(tuple("abd"))),
                             ({"a": "c", "c": "b", "b": "a"}, Ring(("a", "c", "b")))):
            rows = {(house, "x", "spare"): other for house, other in told.items()}
            self.assertEqual(leads(Tables(net, rows), "x", "spare"), answer)
            self.assertEqual(leads(Tables(net, rows), "x", "first"), Stops("a"))
        # A way of lanes without own slots leads, too.
        closed = net_of("abd", "ab") | link("bd", "b", "d", "y", "-")
        rows = {("a", "x", "first"): "b", ("b", "x", "first"): "d"}
        self.assertEqual(leads(Tables(closed, rows), "x", "first"), Leads(("a", "b", "d")))

    def test_refused(self):
        tables = Tables(example_net())
        for value in [*any_values(), example_net()]:
            self.refused(("BadTable", "tables"), leads, value, value, value)
        for value in [*any_values(), "y", "a"]:
            self.refused(("NoFlow", value), leads, tables, value, value)
        for value in [*any_values(), "third"]:
            self.refused(("BadTable", "way"), leads, tables, "x", value)

    def test_papers(self):
        for value in any_values():
            for kind, name, is_true in ((Leads, "houses", True), (Ring, "houses", False), (Stops, "house", False)):
                paper = kind(value)
                self.assertEqual((vars(paper), bool(paper)), ({name: value}, is_true))
                self.assertEqual(paper, kind(**{name: value}))
                self.assertIsInstance(paper, Verdict)
                self.assertFalse(paper == kind("other") or paper == value)
            self.assertFalse(Leads(value) == Ring(value) or Ring(value) == Leads(value) or Stops(value) == Ring(value))
