"""Walks along steps: the way back to where a walk began, and where steps lead without an end.

found is a dict that a walk has filled: to each node the pair of the node ahead
and the step from there, None to those at which the walk begins. after is a dict
from each node to the list of those to which it leads.
"""


def steps_to(found, end):
    """The node at which the walk to a node began, and the list of the steps from there on."""
    here = end
    steps = []
    while found[here] is not None:
        here, step = found[here]
        steps.append(step)
    return here, steps[::-1]


def without_rings(after):
    """The list of the nodes from which no ring can be reached, each one behind all to which it leads."""
    ahead = {node: [] for node in after}
    many = {}
    for node in after:
        many[node] = len(after[node])
        for other in after[node]:
            ahead[other].append(node)
    done = [node for node in after if many[node] == 0]
    at = 0
    while at < len(done):
        before = ahead[done[at]]
        at += 1
        for node in before:
            many[node] = many[node] - 1
            if many[node] == 0:
                done.append(node)
    return done


def ring_among(after):
    """The list of the nodes of a ring, None if there is none."""
    done = {node: True for node in without_rings(after)}
    left = [node for node in after if node not in done]
    if not left:
        return None
    here = left[0]
    steps = {}
    while here not in steps:
        steps[here] = len(steps)
        here = [other for other in after[here] if other not in done][0]
    return list(steps)[steps[here]:]
