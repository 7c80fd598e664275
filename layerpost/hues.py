"""Two hues of tables: what each house keeps while new tables are exchanged for old ones."""

from layerpost.checks import is_within
from layerpost.errors import BadNumber, BadTable, Clashing, NoHouse
from layerpost.tables import Tables, check_tables, houses_led, is_triple


def rows_at(tables, house):
    """The list of what tables tell at a house."""
    return [(key, other) for key, other in tables.pairs if key[0] == house]


class Hues:
    """What is kept, offered and taken; it never changes.

    hue is the one that is exchanged for the other one, offered the tables for the
    other one, or None. sheets is a dict from each pair of a house and a hue to the
    tables that the house has for it; taken one from each flow to the hue with which
    it takes up letters.
    """

    def __init__(self, net, hue, offered, sheets, taken):
        self.net = net
        self.hue = hue
        self.offered = offered
        self.sheets = sheets
        self.taken = taken

    def check_house(self, house):
        """Raises if any value is no house."""
        if house not in self.net.houses:
            raise NoHouse(house)

    def has_new(self, houses):
        """Whether all these houses have the tables that are offered."""
        return all([(house, 1 - self.hue) in self.sheets for house in houses])

    def with_offer(self, tables):
        """Behind an offer of tables for the other hue."""
        if not isinstance(tables, Tables) or not tables.net == self.net:
            raise BadTable("tables")
        if self.offered is not None:
            raise Clashing("offer")
        return Hues(self.net, self.hue, tables, self.sheets, self.taken)

    def with_given(self, house):
        """Behind a house that has got the tables that are offered."""
        self.check_house(house)
        if self.offered is None or self.has_new([house]):
            raise Clashing("give")
        sheets = {key: self.sheets[key] for key in self.sheets}
        sheets[(house, 1 - self.hue)] = self.offered
        return Hues(self.net, self.hue, self.offered, sheets, self.taken)

    def with_turned(self, flow):
        """Behind a flow that has turned to the other hue."""
        self.net.flow_named(flow)
        if self.offered is None or self.taken[flow] != self.hue:
            raise Clashing("turn")
        if not self.has_new(houses_led(self.offered, flow)):
            raise Clashing("early")
        taken = {name: 1 - self.hue if name == flow else self.taken[name] for name in self.taken}
        return Hues(self.net, self.hue, self.offered, self.sheets, taken)

    def with_dropped(self, house):
        """Behind a house that has forgotten the old tables; the last one ends the exchange."""
        self.check_house(house)
        if self.offered is None or (house, self.hue) not in self.sheets:
            raise Clashing("drop")
        if not self.has_new(self.net.houses) or self.hue in list(self.taken.values()):
            raise Clashing("early")
        sheets = {key: self.sheets[key] for key in self.sheets if key != (house, self.hue)}
        if len(sheets) > len(self.net):
            return Hues(self.net, self.hue, self.offered, sheets, self.taken)
        return Hues(self.net, 1 - self.hue, None, sheets, self.taken)

    def hue_of(self, flow):
        """The hue with which a flow takes up letters."""
        self.net.flow_named(flow)
        return self.taken[flow]

    def next_house(self, house, flow, way, hue):
        """What a house tells for a flow, a way and a hue, None if nothing."""
        if not is_triple(self.net, (house, flow, way)):
            raise BadTable("place")
        if not is_within(hue, 0, 1):
            raise BadNumber(hue)
        if (house, hue) not in self.sheets:
            return None
        return self.sheets[(house, hue)][house, flow, way]

    def kept_rows(self):
        """A dict from each pair of a house and a hue for which it has tables to what these tell there."""
        return {key: rows_at(self.sheets[key], key[0]) for key in self.sheets}

    def __eq__(self, other):
        return isinstance(other, Hues) and self.net == other.net and self.hue == other.hue and (
            self.offered == other.offered) and self.taken == other.taken and self.kept_rows() == other.kept_rows()


def first_hues(tables):
    """Each house has these tables for the hue 0, and all flows take up letters with it."""
    check_tables(tables)
    net = tables.net
    return Hues(net, 0, None, {(house, 0): tables for house in net.houses}, {flow.name: 0 for flow in net.flows})
