"""Two ways without a common house between, with as few houses together as possible.

First the shortest way is found. The second one may go against the first: a step
against it takes back a step of the first, so the best two ways come out even if
the shortest one is none of them.
"""

from layerpost.walks import steps_to


def neighbours(joined):
    """A dict from each house to the ascending list of the houses that are joined to it."""
    near = {}
    for one, other in joined:
        for house in (one, other):
            if house not in near:
                near[house] = []
        near[one].append(other)
        near[other].append(one)
    return {house: sorted(near[house]) for house in near}


def shortest_way(near, begin, end):
    """A way with the fewest houses; there is one."""
    found = {begin: None}
    order = [begin]
    at = 0
    while end not in found:
        here = order[at]
        at += 1
        for house in near[here]:
            if house not in found:
                found[house] = (here, house)
                order.append(house)
    _, houses = steps_to(found, end)
    return [begin, *houses]


def steps_beside(near, main):
    """The steps that a second way can take, as triples of two doors and what the step adds.

    A door is a house, and whether it is left there or entered. Each house may be
    passed once, so in a house of the main way only steps against it pass.
    """
    begin, end = main[0], main[-1]
    taken = list(zip(main, main[1:]))
    steps = []
    for house in near:
        steps.append(((house, house in main), (house, house not in main), 0))
        for other in near[house]:
            if (house, other) in taken:
                steps.append(((other, False), (house, True), -1))
            elif house != end and other != begin:
                steps.append(((house, True), (other, False), 1))
    return steps


def cheapest_walk(steps, begin, end):
    """The list of the doors behind begin on a walk to end that adds least; there is one."""
    cost = {begin: 0}
    found = {begin: None}
    is_done = False
    while not is_done:
        is_done = True
        for one, other, price in steps:
            if one in cost and (other not in cost or cost[one] + price < cost[other]):
                cost[other] = cost[one] + price
                found[other] = (one, other)
                is_done = False
    _, doors = steps_to(found, end)
    return doors


def way_along(steps, here, end):
    """The way to the end from a step on: steps are a dict from each house to the next one."""
    way = [here]
    while way[-1] != end:
        way.append(steps[way[-1]])
    return way


def two_ways(joined, begin, end):
    """A pair of such ways, the shorter one first; joined are the pairs of houses with a link. There are two ways."""
    near = neighbours(joined)
    main = shortest_way(near, begin, end)
    taken = list(zip(main, main[1:]))
    doors = [(begin, True), *cheapest_walk(steps_beside(near, main), (begin, True), (end, False))]
    moves = [(one, other) for (one, _), (other, _) in zip(doors, doors[1:]) if one != other]
    steps = [(one, other) for one, other in taken if (other, one) not in moves]
    steps.extend([(one, other) for one, other in moves if (other, one) not in taken])
    ahead = {one: other for one, other in steps if one != begin}
    ways = [[begin, *way_along(ahead, other, end)] for one, other in steps if one == begin]
    least, most = sorted(ways, key=len)
    return tuple(least), tuple(most)
