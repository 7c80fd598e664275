"""Nets for tests: some by hand, some by chance, and walks through them that the tests do themselves."""

from itertools import combinations

from layerpost.frames import FrameRule
from layerpost.losses import Burst
from layerpost.nets import Flow, Lane, Link, Net
from layerpost.plans import Plan
from layerpost.rounds import Round

SIMPLE = FrameRule.simple("01", "0")


def lane(slots="x", travel=0):
    """A lane with these slots."""
    return Lane(Round.read(slots), travel)


def link(name, one, other, there="x", back="x"):
    """A link whose lanes have these slots."""
    return Link(name, one, other, lane(there), lane(back))


def net_of(houses, pairs, flows=(("x", "a", "d"),)):
    """A net of houses and links of one letter each: a link has the two letters of its houses as its name."""
    flows = [Flow(name, begin, end, 4, 90) for name, begin, end in flows]
    return Net(list(houses), [link(pair, *pair) for pair in pairs.split()], flows, SIMPLE, 4)


def example_net():
    """The net of the document's examples."""
    back = Lane(Round("x"), 0, Plan.copies(1), Burst(1, 1))
    links = [Link(name, name[0], name[1], Lane(Round("x", "y"), 2), back) for name in ("ab", "ac", "bc", "bd", "cd")]
    return Net(list("abcd"), links, [Flow("x", "a", "d", 4, 90)], SIMPLE, 4)


def dealt_net(chance, most=8, many=14, own=.93, least=2):
    """A net by chance: some lanes are not the flow's."""
    houses = [name * 2 for name in "jihgfedcba"[10 - chance.randint(least, most):]]
    pairs = list(combinations(houses, 2))
    chance.shuffle(pairs)
    links = []
    for at, pair in enumerate(pairs[:chance.randint(0 if least == 2 else least, min(len(pairs), many))]):
        one, other = chance.sample(pair, 2)
        slots = ["x" if chance.random() < own else "y -" for _ in range(2)]
        links.append(link(chance.choice("az") + "bcdefghijklmnopqrst"[at], one, other, *slots))
    begin, end = chance.sample(houses, 2)
    return Net(houses, links, [Flow("q", end, begin, 0, 1), Flow("x", begin, end, 4, 9)], SIMPLE, 4)


def joined(net, one, other):
    """The link between two houses by a look at all of them, None if there is none."""
    for part in net.links:
        if {part.one, part.other} == {one, other}:
            return part
    return None


def is_open(part, flow):
    """Whether both lanes have slots of a flow."""
    return flow in part.there.ring.slots and flow in part.back.ring.slots


def walked_ways(net, flow):
    """All ways of a flow."""
    told = [one for one in net.flows if one.name == flow][0]
    ways, left = [], [(told.begin,)]
    while left:
        way = left.pop()
        if way[-1] == told.end:
            ways.append(way)
            continue
        for house in net.houses:
            part = joined(net, way[-1], house)
            if house not in way and part is not None and is_open(part, flow):
                left.append((*way, house))
    return ways


def links_on(net, way):
    """The names of the links along a way."""
    return [joined(net, one, other).name for one, other in zip(way, way[1:])]


def are_apart(net, one, other):
    """Whether two ways have no house between and no link in common."""
    return not set(one[1:-1]) & set(other[1:-1]) and not set(links_on(net, one)) & set(links_on(net, other))


def walked_side(net, flow, without):
    """The houses that can be reached from the begin without a name."""
    told = [one for one in net.flows if one.name == flow][0]
    found, left = {told.begin}, [told.begin]
    while left:
        here = left.pop()
        for house in net.houses:
            part = joined(net, here, house)
            if house not in found and house != without and part is not None and part.name != without:
                if is_open(part, flow):
                    found.add(house)
                    left.append(house)
    return tuple(sorted(found))
