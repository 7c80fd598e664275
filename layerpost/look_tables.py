"""Looks at papers of ways that are apart, and of tables that are exchanged in any order."""

from layerpost.checks import is_integer
from layerpost.exchange import Ranks, rows_asked
from layerpost.routes import Apart, Cut, are_ways_apart, check_net, is_way_of, names_between, reached
from layerpost.tables import Ring, Stops


def are_apart(net, flow, one, other):
    """Whether any values are two ways of a Flow without a common house between and without a common link."""
    return is_way_of(net, flow, one) and is_way_of(net, flow, other) and are_ways_apart(one, other)


def is_cut(net, flow, name, side):
    """Whether any values are a name that all ways of a Flow have, None if there is no way, and what is reached."""
    free = reached(net, flow, None)
    if flow.end not in free:
        return name is None and side == free
    if name not in names_between(net, flow):
        return False
    left = reached(net, flow, name)
    return flow.end not in left and side == left


def shows_apart(net, flow, value):
    """Whether any value is two ways of a flow that are apart, or a name that all have, with its side."""
    check_net(net)
    told = net.flow_named(flow)
    if isinstance(value, Apart):
        return are_apart(net, told, value.main, value.spare)
    return isinstance(value, Cut) and is_cut(net, told, value.name, value.side)


def are_ranks(net, rows, ranks):
    """Whether any value is a dict from houses to integers that fall along all rows, and each house tells some."""
    if not isinstance(ranks, dict) or not all([house in net.houses for house in ranks]):
        return False
    if not all([is_integer(rank) for rank in ranks.values()]) or not all([house in ranks for house in rows]):
        return False
    if any([None in rows[house] for house in rows]):
        return False
    return all([ranks[house] > ranks[other] for house in rows for other in rows[house]])


def is_ring(rows, houses):
    """Whether any value is a row of unlike houses that can be met, each one told at the one ahead of it, round."""
    if not isinstance(houses, tuple) or len(houses) == 0 or not all([house in list(rows) for house in houses]):
        return False
    if len(set(houses)) < len(houses):
        return False
    return all([houses[at] in rows[houses[at - 1]] for at in range(len(houses))])


def shows_any_order(old, new, flow, way, value):
    """Whether any value is a Ranks that falls along all that can be met, or a Ring or a Stops that can be met."""
    rows = rows_asked(old, new, flow, way)
    if isinstance(value, Ranks):
        return are_ranks(old.net, rows, value.ranks)
    if isinstance(value, Ring):
        return is_ring(rows, value.houses)
    return isinstance(value, Stops) and value.house in list(rows) and None in rows[value.house]
