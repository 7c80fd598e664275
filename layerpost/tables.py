"""Tables: at each house the next one, for each flow and each of its ways."""

from layerpost.checks import WAYS, is_way_word
from layerpost.errors import BadTable, Clashing
from layerpost.routes import apart, check_net, is_way_of
from layerpost.verdicts import Verdict


class Leads(Verdict):
    """Letters go to the end by these houses."""

    def __init__(self, houses):
        self.houses = houses

    def __bool__(self):
        return True

    def __eq__(self, other):
        return isinstance(other, Leads) and self.houses == other.houses


class Ring(Verdict):
    """Letters go round by these houses."""

    def __init__(self, houses):
        self.houses = houses

    def __bool__(self):
        return False

    def __eq__(self, other):
        return isinstance(other, Ring) and self.houses == other.houses


class Stops(Verdict):
    """Nothing is told at this house, ahead of the end."""

    def __init__(self, house):
        self.house = house

    def __bool__(self):
        return False

    def __eq__(self, other):
        return isinstance(other, Stops) and self.house == other.house


def is_triple(net, value):
    """Whether any value is a triple of a house, a flow and a way of a net."""
    if not isinstance(value, tuple) or len(value) != 3:
        return False
    house, flow, way = value
    return house in net.houses and flow in [told.name for told in net.flows] and is_way_word(way)


def check_way(way):
    """Raises if any value is no word for a way."""
    if not is_way_word(way):
        raise BadTable("way")


class Tables:
    """The next houses that are told, as pairs of a triple and a house, ascending. They never change."""

    def __init__(self, net, rows=None):
        check_net(net)
        if rows is not None and not isinstance(rows, dict):
            raise BadTable("rows")
        told = [] if rows is None else [(key, rows[key]) for key in rows]
        for key, house in told:
            if not is_triple(net, key) or house not in net.near(key[0]):
                raise BadTable(key)
        self.net = net
        self.pairs = tuple(sorted(told))
        self.rows = {key: house for key, house in self.pairs}

    def __getitem__(self, at):
        if not is_triple(self.net, at):
            raise BadTable("place")
        return self.rows.get(at)

    def __len__(self):
        return len(self.pairs)

    def __iter__(self):
        return iter(self.pairs)

    def laid(self, flow, way, houses):
        """The tables with all that is told for a flow and a way exchanged for a row of houses."""
        told = self.net.flow_named(flow)
        check_way(way)
        if not is_way_of(self.net, told, houses):
            raise BadTable("houses")
        rows = {key: house for key, house in self.pairs if key[1:] != (flow, way)}
        for one, other in zip(houses, houses[1:]):
            rows[(one, flow, way)] = other
        return Tables(self.net, rows)

    def __or__(self, other):
        if not isinstance(other, Tables) or not self.net == other.net:
            raise BadTable("other")
        rows = {}
        for key, house in [*self.pairs, *other.pairs]:
            rows[key] = house
        return Tables(self.net, rows)

    def __eq__(self, other):
        return isinstance(other, Tables) and self.net == other.net and self.pairs == other.pairs

    @staticmethod
    def of(net):
        """The tables with two ways that are apart for each flow."""
        tables = Tables(net)
        for flow in net.flows:
            ways = apart(net, flow.name)
            if not ways:
                raise Clashing(flow.name)
            tables = tables.laid(flow.name, "first", ways.main).laid(flow.name, "spare", ways.spare)
        return tables


def check_tables(tables):
    """Raises if any value is no tables."""
    if not isinstance(tables, Tables):
        raise BadTable("tables")


def leads(tables, flow, way):
    """Where tables lead a flow's letters on one of its ways: a Leads, a Ring or a Stops."""
    check_tables(tables)
    told = tables.net.flow_named(flow)
    check_way(way)
    houses = [told.begin]
    while houses[-1] != told.end:
        house = tables[houses[-1], flow, way]
        if house is None:
            return Stops(houses[-1])
        if house in houses:
            return Ring(tuple(houses[houses.index(house):]))
        houses.append(house)
    return Leads(tuple(houses))


def houses_led(tables, flow):
    """The list of the houses of those of a flow's ways that the tables lead."""
    houses = []
    for way in WAYS:
        answer = leads(tables, flow, way)
        if answer:
            houses.extend(answer.houses)
    return houses
