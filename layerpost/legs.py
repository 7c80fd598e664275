"""The lanes of a way, forth and back, each with its greatest delay: for all that is told of ways."""

from layerpost.errors import BadTable, Clashing
from layerpost.hops import hop_growth
from layerpost.longest import most_cells
from layerpost.routes import is_way_of
from layerpost.tables import leads


class Hops:
    """The growths G of lanes for a flow, reckoned once for lanes that are equal."""

    def __init__(self, flow):
        self.flow = flow
        self.rows = []

    def growth_of(self, lane):
        """The growth G of a lane."""
        for told, growth in self.rows:
            if told == lane:
                return growth
        growth = hop_growth(lane.plan, lane.rule, lane.ring, self.flow, lane.travel)
        self.rows.append((lane, growth))
        return growth

    def both(self, link, house):
        """The growths of the lane of a link from a house, and of that back."""
        try:
            return self.growth_of(link.lane_from(house)), self.growth_of(link.lane_from(link.far_end(house)))
        except Clashing:
            raise Clashing(link.name)


class Legs:
    """A way of a Flow: its houses, and its links with the growths of their lanes, from the begin on.

    forth and back are lists of pairs of a link and a growth; back begins at the end.
    """

    def __init__(self, net, flow, houses):
        self.net = net
        self.flow = flow
        self.houses = houses
        hops = Hops(flow.name)
        links = [(net.between(one, other), one) for one, other in zip(houses, houses[1:])]
        growths = [hops.both(link, house) for link, house in links]
        self.forth = [(link, there) for (link, _), (there, _) in zip(links, growths)]
        self.back = [(link, back) for (link, _), (_, back) in zip(links, growths)][::-1]
        self.cells = None

    def cells_of_marks(self):
        """The growths N of both marks, looked for when they are first asked for."""
        if self.cells is None:
            self.cells = [most_cells(self.net.rule, self.net.size, mark) for mark in "01"]
        return self.cells

    def cells_at(self, mark, length):
        """The most cells of a letter with a mark and so many bits; an answer is one without bits."""
        cells = self.cells_of_marks()[mark]
        return cells(length)


def legs_of(tables, flow, way):
    """The Legs of a way, for any values."""
    answer = leads(tables, flow, way)
    told = tables.net.flow_named(flow)
    if not answer or not is_way_of(tables.net, told, answer.houses):
        raise BadTable(way)
    return Legs(tables.net, told, answer.houses)


def shares(pairs, cells):
    """The tuple of what each lane adds for so many cells: the name of its link, the cells, the ticks."""
    return tuple([(link.name, cells, growth(cells)) for link, growth in pairs])


def ticks_for(pairs, cells):
    """The sum of the greatest delays of lanes for so many cells."""
    return sum([growth(cells) for _, growth in pairs])


def delays_at(legs, length):
    """The greatest delays of a content of this length, of both marks."""
    return [ticks_for(legs.forth, legs.cells_at(mark, length)) for mark in (0, 1)]


def trips_at(legs, length):
    """The greatest round trips of a content of this length, of both marks."""
    answers = [ticks_for(legs.back, legs.cells_at(mark, 0)) for mark in (0, 1)]
    return [delay + answer for delay, answer in zip(delays_at(legs, length), answers)]


def worse_mark(values):
    """The mark that has the greater one of two values; 0 if both have it."""
    return 0 if values[0] >= values[1] else 1
