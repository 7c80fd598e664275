"""Rows of a line that are not known, slot by slot.

Rows are pairs of an age and an owner, the oldest one first: the age is how many
own slots earlier the row was made, as the next own slot tells it, the owner the
thing of which it is a cell, None for a row of nothing. The bit k of a vector is
the row with the index k; vectors make the differences by which the rows can be
otherwise.
"""

from layerpost.plans import MOST_AGE
from layerpost.vectors import basis_of, heard_vectors, picked_vector


def is_in_reach(plan, phase, age):
    """Whether a slot from this phase on can tell a row of this age."""
    return any([age + later in ages for later in range(MOST_AGE - age + 1)
                for ages in plan[phase + later].sums])


def is_free(basis, at):
    """Whether no known sum holds the row with an index: whether it can be otherwise alone."""
    rest = 1 << at
    for vector in basis:
        rest = min(rest, rest ^ vector)
    return rest == 0


def heard_behind(rows, vectors, phase):
    """The vectors behind a kept slot, whose row, unless it is mute, is the last one."""
    places = {age: at for at, (age, _) in enumerate(rows)}
    masks = [sum([1 << places[age] for age in ages if age in places]) for ages in phase.sums]
    if not phase.mute:
        masks.append(1 << places[0])
    behind = vectors
    for mask in masks:
        behind = heard_vectors(behind, mask)
    return behind


def rows_behind(plan, at, rows, vectors, is_kept, owner):
    """The rows and the basis behind the own slot of the phase with an index; owner is that of its row."""
    phase = plan[at]
    told = list(rows)
    differing = list(vectors)
    if not phase.mute:
        differing.append(1 << len(told))
        told.append((0, owner))
    if is_kept:
        differing = heard_behind(told, differing, phase)
    older = [(age + 1, thing) for age, thing in told]
    basis = basis_of(differing)
    stay = []
    for place, (age, thing) in enumerate(older):
        is_known = not any([(vector >> place) & 1 for vector in basis])
        # A row of nothing plays a part as long as it can be told, or a sum that is known holds it.
        if not is_known and (thing is not None or is_in_reach(plan, at + 1, age) or not is_free(basis, place)):
            stay.append(place)
    return tuple([older[place] for place in stay]), basis_of([picked_vector(vector, stay) for vector in basis])
