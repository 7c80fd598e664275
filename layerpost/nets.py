"""Nets: houses, links of two lanes each, and flows from house to house."""

from layerpost.cells import MOST_SIZE
from layerpost.checks import is_name, is_within
from layerpost.errors import BadCell, BadFrame, BadName, BadNet, BadNumber, BadPlan, BadRound, BadRule
from layerpost.errors import Clashing, NoFlow, NoHouse, NoLink, NoName, TooMany
from layerpost.frames import FrameRule
from layerpost.losses import LossRule, Total
from layerpost.plans import Plan
from layerpost.rounds import Round

MOST_TRAVEL = 1000
MOST_LENGTH = 199
MOST_TIMEOUT = 10 ** 9
MOST_HOUSES = 12
MOST_LINKS = 30
MOST_FLOWS = 6


class Lane:
    """One direction of a link. It never changes."""

    def __init__(self, ring, travel=0, plan=None, rule=None):
        if not isinstance(ring, Round):
            raise BadRound("ring")
        if not is_within(travel, 0, MOST_TRAVEL):
            raise BadNumber(travel)
        if plan is not None and not isinstance(plan, Plan):
            raise BadPlan("plan")
        if rule is not None and not isinstance(rule, LossRule):
            raise BadRule("rule")
        self.ring = ring
        self.travel = travel
        self.plan = Plan.plain() if plan is None else plan
        self.rule = Total(0) if rule is None else rule
        if not self.rule.is_calm:
            raise BadRule("calm")

    def carries(self, flow):
        """Whether any value is the name of a flow with an own slot there."""
        return flow in self.ring

    def __eq__(self, other):
        return isinstance(other, Lane) and self.ring == other.ring and self.travel == other.travel and (
            self.plan == other.plan) and self.rule == other.rule


def check_ends(first, last, words):
    """Raises with the word of the first one of two any values that are no two unlike names."""
    if not is_name(first):
        raise BadNet(words[0])
    if not is_name(last) or first == last:
        raise BadNet(words[1])


class Link:
    """Two houses, and a lane for each direction. It never changes."""

    def __init__(self, name, one, other, there, back):
        if not is_name(name):
            raise BadName(name)
        check_ends(one, other, ("one", "other"))
        if not isinstance(there, Lane):
            raise BadNet("there")
        if not isinstance(back, Lane):
            raise BadNet("back")
        self.name = name
        self.one = one
        self.other = other
        self.there = there
        self.back = back

    def far_end(self, house):
        """The other house."""
        if house == self.one:
            return self.other
        if house == self.other:
            return self.one
        raise NoHouse(house)

    def lane_from(self, house):
        """The lane that begins at a house."""
        if house == self.one:
            return self.there
        if house == self.other:
            return self.back
        raise NoHouse(house)

    def __contains__(self, x):
        return x in (self.one, self.other)

    def __eq__(self, other):
        return isinstance(other, Link) and self.name == other.name and self.one == other.one and (
            self.other == other.other) and self.there == other.there and self.back == other.back


class Flow:
    """Letters from a house to another one, one at a time. It never changes."""

    def __init__(self, name, begin, end, most, timeout):
        if not is_name(name):
            raise BadName(name)
        check_ends(begin, end, ("begin", "end"))
        if not is_within(most, 0, MOST_LENGTH):
            raise BadNumber(most)
        if not is_within(timeout, 1, MOST_TIMEOUT):
            raise BadNumber(timeout)
        self.name = name
        self.begin = begin
        self.end = end
        self.most = most
        self.timeout = timeout

    def __eq__(self, other):
        return isinstance(other, Flow) and self.name == other.name and self.begin == other.begin and (
            self.end == other.end) and self.most == other.most and self.timeout == other.timeout


def are_houses(values):
    """Whether any value is a list or tuple of 2 to 12 unlike names."""
    if not isinstance(values, (list, tuple)) or not 2 <= len(values) <= MOST_HOUSES:
        return False
    return all([is_name(name) for name in values]) and len(set(values)) == len(values)


def check_kinds(houses, links, flows):
    """Raises if any values are no lists or tuples of houses, of links, of flows."""
    if not are_houses(houses):
        raise BadNet("houses")
    if not isinstance(links, (list, tuple)) or not all([isinstance(link, Link) for link in links]):
        raise BadNet("links")
    if not isinstance(flows, (list, tuple)) or not all([isinstance(flow, Flow) for flow in flows]):
        raise BadNet("flows")


def check_names(houses, links, flows):
    """Raises for the first house of links and flows that is none, then for the first name that came before."""
    ends = [name for link in links for name in (link.one, link.other)]
    ends.extend([name for flow in flows for name in (flow.begin, flow.end)])
    for name in ends:
        if name not in houses:
            raise NoHouse(name)
    names = {}
    for name in houses:
        names[name] = True
    for thing in [*links, *flows]:
        if thing.name in names:
            raise Clashing(thing.name)
        names[thing.name] = True


def check_joined(links):
    """Raises for the first link that joins two houses that an earlier one joins."""
    joined = {}
    for link in links:
        if (link.one, link.other) in joined or (link.other, link.one) in joined:
            raise Clashing(link.name)
        joined[(link.one, link.other)] = True


def with_thing(things, thing):
    """The things with another one in the place of the one with its name, or behind all."""
    names = [old.name for old in things]
    if thing.name not in names:
        return [*things, thing]
    return [thing if old.name == thing.name else old for old in things]


class Net:
    """Houses, links and flows, with one frame rule and one cell size. It never changes."""

    def __init__(self, houses, links, flows, rule, size):
        check_kinds(houses, links, flows)
        check_names(houses, links, flows)
        check_joined(links)
        if len(links) > MOST_LINKS:
            raise TooMany("links", MOST_LINKS)
        if len(flows) > MOST_FLOWS:
            raise TooMany("flows", MOST_FLOWS)
        if not isinstance(rule, FrameRule):
            raise BadFrame("rule")
        if not is_within(size, 1, MOST_SIZE):
            raise BadCell("size")
        self.houses = tuple(houses)
        self.links = tuple(links)
        self.flows = tuple(flows)
        self.rule = rule
        self.size = size

    def link_named(self, name):
        """The link with a name."""
        for link in self.links:
            if link.name == name:
                return link
        raise NoLink(name)

    def flow_named(self, name):
        """The flow with a name."""
        for flow in self.flows:
            if flow.name == name:
                return flow
        raise NoFlow(name)

    def between(self, one, other):
        """The link that joins two houses, None if there is none."""
        for house in (one, other):
            if house not in self.houses:
                raise NoHouse(house)
        for link in self.links:
            if one in link and link.far_end(one) == other:
                return link
        return None

    def near(self, house):
        """The ascending tuple of the houses that a link joins to a house."""
        if house not in self.houses:
            raise NoHouse(house)
        return tuple(sorted([link.far_end(house) for link in self.links if house in link]))

    def __contains__(self, x):
        return x in self.houses or x in [thing.name for thing in [*self.links, *self.flows]]

    def __len__(self):
        return len(self.houses)

    def __iter__(self):
        return iter(self.houses)

    def __or__(self, other):
        if isinstance(other, Link):
            return Net(self.houses, with_thing(self.links, other), self.flows, self.rule, self.size)
        if isinstance(other, Flow):
            return Net(self.houses, self.links, with_thing(self.flows, other), self.rule, self.size)
        raise BadNet("thing")

    def __sub__(self, other):
        if other not in self:
            raise NoName(other)
        for flow in self.flows:
            if other in (flow.begin, flow.end):
                raise Clashing(flow.name)
        houses = [house for house in self.houses if house != other]
        links = [link for link in self.links if link.name != other and other not in link]
        flows = [flow for flow in self.flows if flow.name != other]
        return Net(houses, links, flows, self.rule, self.size)

    def __eq__(self, other):
        return isinstance(other, Net) and self.houses == other.houses and self.links == other.links and (
            self.flows == other.flows) and self.rule == other.rule and self.size == other.size
