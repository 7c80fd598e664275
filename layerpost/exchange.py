"""Exchanges of tables while letters are under way: by two hues, or house by house in an order that is safe."""

from layerpost.errors import BadTable, NoHouse, Nothing
from layerpost.hues import first_hues
from layerpost.tables import Ring, Stops, Tables, check_way, leads
from layerpost.verdicts import Verdict
from layerpost.walks import ring_among, without_rings


class Bench:
    """What each house keeps while tables are exchanged, and all that can be taken back. A bench changes."""

    def __init__(self, tables):
        self.now = first_hues(tables)
        self.past = []

    def done(self, word, after):
        """Keeps a deed that was let, and what is behind it."""
        self.past.append((word, self.now))
        self.now = after

    def offer(self, tables):
        """Tables for the other hue are offered."""
        self.done("offer", self.now.with_offer(tables))

    def give(self, house):
        """A house gets the tables that are offered."""
        self.done("give", self.now.with_given(house))

    def turn(self, flow):
        """A flow takes up letters with the other hue from now on."""
        self.done("turn", self.now.with_turned(flow))

    def drop(self, house):
        """A house forgets the old tables."""
        self.done("drop", self.now.with_dropped(house))

    def hue_of(self, flow):
        """The hue with which a flow takes up letters."""
        return self.now.hue_of(flow)

    def next_house(self, house, flow, way, hue):
        """What a house tells for a flow, a way and a hue, None if nothing."""
        return self.now.next_house(house, flow, way, hue)

    def undo(self):
        """Takes back the last deed, and returns its word."""
        if not self.past:
            raise Nothing()
        word, self.now = self.past.pop()
        return word

    @property
    def deeds(self):
        """How many deeds can be taken back."""
        return len(self.past)

    def __eq__(self, other):
        return isinstance(other, Bench) and self.now == other.now


class Ranks(Verdict):
    """In any order each letter comes to the end: numbers of houses that fall along all that is told."""

    def __init__(self, ranks):
        self.ranks = ranks

    def __bool__(self):
        return True

    def __eq__(self, other):
        return isinstance(other, Ranks) and self.ranks == other.ranks


def check_both(old, new):
    """Raises if any values are no old tables, and no new ones of an equal net."""
    if not isinstance(old, Tables):
        raise BadTable("old")
    if not isinstance(new, Tables) or not new.net == old.net:
        raise BadTable("new")


def mixed(old, new, *turned):
    """Tables with new rows at the turned houses, old ones at the others."""
    check_both(old, new)
    for name in turned:
        if name not in old.net.houses:
            raise NoHouse(name)
    rows = {key: house for key, house in old.pairs if key[0] not in turned}
    for key, house in new.pairs:
        if key[0] in turned:
            rows[key] = house
    return Tables(old.net, rows)


def met_rows(old, new, flow, way):
    """A dict from each house that a Flow's letters can meet to what old and new tables tell there, () at the end."""
    rows = {}
    order = [flow.begin]
    at = 0
    while at < len(order):
        house = order[at]
        at += 1
        if house not in rows:
            rows[house] = () if house == flow.end else tuple([told[house, flow.name, way] for told in (old, new)])
            order.extend([other for other in rows[house] if other is not None])
    return rows


def rows_asked(old, new, flow, way):
    """The rows that can be met, for any values."""
    check_both(old, new)
    told = old.net.flow_named(flow)
    check_way(way)
    return met_rows(old, new, told, way)


def any_order(old, new, flow, way):
    """Whether houses can be turned in any order: a Ranks, or else a Stops or a Ring that can be met."""
    rows = rows_asked(old, new, flow, way)
    stops = [house for house in rows if None in rows[house]]
    if stops:
        return Stops(min(stops))
    ring = ring_among(rows)
    if ring is not None:
        return Ring(tuple(ring))
    ranks = {}
    for house in without_rings(rows):
        ranks[house] = max([ranks[other] + 1 for other in rows[house]], default=0)
    return Ranks(ranks)


def safe_order(old, new, flow, way):
    """All houses in an order in which they can be turned, None unless both tables lead."""
    check_both(old, new)
    before = leads(old, flow, way)
    behind = leads(new, flow, way)
    if not before or not behind:
        return None
    others = sorted([house for house in old.net.houses if house not in behind.houses])
    return (*behind.houses[::-1], *others)
