"""Ways of flows through a net, and two of them that are apart."""

from layerpost.errors import BadNet, BadTable
from layerpost.nets import Net
from layerpost.twoways import two_ways
from layerpost.verdicts import Verdict


class Apart(Verdict):
    """Two ways without a common house between and without a common link."""

    def __init__(self, main, spare):
        self.main = main
        self.spare = spare

    def __bool__(self):
        return True

    def __eq__(self, other):
        return isinstance(other, Apart) and self.main == other.main and self.spare == other.spare


class Cut(Verdict):
    """No two ways are apart: the name of what all have, and what can be reached without it."""

    def __init__(self, name, side):
        self.name = name
        self.side = side

    def __bool__(self):
        return False

    def __eq__(self, other):
        return isinstance(other, Cut) and self.name == other.name and self.side == other.side


def check_net(net):
    """Raises if any value is no net."""
    if not isinstance(net, Net):
        raise BadNet("net")


def open_links(net, flow):
    """The links on whose lanes, both, a flow has own slots."""
    return [link for link in net.links if link.there.carries(flow) and link.back.carries(flow)]


def is_way_of(net, flow, houses):
    """Whether any value is a way of a Flow of the net."""
    if not isinstance(houses, tuple) or not all([house in net.houses for house in houses]):
        return False
    if len(set(houses)) < len(houses) or houses[:1] != (flow.begin,) or houses[-1:] != (flow.end,):
        return False
    steps = {}
    for link in open_links(net, flow.name):
        steps[(link.one, link.other)] = True
        steps[(link.other, link.one)] = True
    return all([pair in steps for pair in zip(houses, houses[1:])])


def is_way(net, flow, houses):
    """Whether any value is a way of a flow: a row of unlike houses that links with its own slots join."""
    check_net(net)
    return is_way_of(net, net.flow_named(flow), houses)


def are_ways_apart(one, other):
    """Whether two ways of a flow have no house between and no link in common."""
    # Two rows of unlike houses with no house between in common have a link in common only if they are that link.
    return len(one) + len(other) > 4 and not any([house in other for house in one[1:-1]])


def lanes_along(net, houses):
    """The tuple of the lanes from each of these houses to the next one."""
    return tuple([net.between(one, other).lane_from(one) for one, other in zip(houses, houses[1:])])


def check_row(net, houses):
    """Raises if any value is no tuple of at least two houses with links between."""
    if not isinstance(houses, tuple) or len(houses) < 2 or not all([house in net.houses for house in houses]):
        raise BadTable("houses")
    if None in [net.between(one, other) for one, other in zip(houses, houses[1:])]:
        raise BadTable("houses")


def lanes_on(net, houses):
    """The tuple of the lanes along a row of houses."""
    check_net(net)
    check_row(net, houses)
    return lanes_along(net, houses)


def lanes_back(net, houses):
    """The tuple of the lanes back along a row of houses, from the end on."""
    check_net(net)
    check_row(net, houses)
    return lanes_along(net, houses[::-1])


def reached(net, flow, without):
    """The ascending tuple of the houses that can be reached from the begin of a Flow without a house or a link."""
    links = [link for link in open_links(net, flow.name) if without != link.name and without not in link]
    order = [flow.begin]
    found = {flow.begin: True}
    at = 0
    while at < len(order):
        here = order[at]
        at += 1
        for house in [link.far_end(here) for link in links if here in link]:
            if house not in found:
                found[house] = True
                order.append(house)
    return tuple(sorted(order))


def names_between(net, flow):
    """The ascending list of the names of all links, and of all houses but the ends of a Flow."""
    names = [house for house in net.houses if house not in (flow.begin, flow.end)]
    return sorted([*names, *[link.name for link in net.links]])


def cut_of(net, flow):
    """The Cut with the least name that all ways of a Flow have, None if there is none."""
    side = reached(net, flow, None)
    if flow.end not in side:
        return Cut(None, side)
    for name in names_between(net, flow):
        side = reached(net, flow, name)
        if flow.end not in side:
            return Cut(name, side)
    return None


def apart(net, flow):
    """Two ways of a flow that are apart, with as few houses together as possible, or what all its ways have."""
    check_net(net)
    told = net.flow_named(flow)
    cut = cut_of(net, told)
    if cut is not None:
        return cut
    joined = [(link.one, link.other) for link in open_links(net, flow)]
    main, spare = two_ways(joined, told.begin, told.end)
    return Apart(main, spare)
