"""Cells on one line: which own slots they need until all of them are known.

Own slots are numbered from the beginning of the line.
"""

from layerpost.plans import MOST_AGE
from layerpost.repair import vectors_behind


def slots_until(own, length, place, tick):
    """How many own slots go by ahead of a tick, if a round of this length is at a place at the tick 0."""
    rounds, rest = divmod(place + tick, length)
    return rounds * len(own) + len([at for at in own if at < rest]) - len([at for at in own if at < place])


def rows_unknown(vectors, rows):
    """Those of these rows that the differences leave unknown."""
    differing = 0
    for vector in vectors:
        differing = differing | vector
    return [row for row in rows if (differing >> row) & 1]


def bits_of(rows):
    """The integer with these bits."""
    told = 0
    for row in rows:
        told = told | (1 << row)
    return told


def parts_within(vectors, mask):
    """The parts of these vectors within a mask, none 0."""
    return [vector & mask for vector in vectors if vector & mask != 0]


def slot_behind(plan, begin, losses, first, cells):
    """The own slot behind which all of at least one cell are known that wait from a slot on, None if there is none.

    begin is the phase of the slot 0; slots behind the losses are kept.
    """
    # Where as many slots as a sum can reach are kept, all rows that play a part are known.
    start = 0 if first < len(losses) + MOST_AGE else first
    waiting = cells
    unknown = []
    vectors = []
    at = 0
    while True:
        slot = start + at
        phase = plan[begin + slot]
        vectors = vectors_behind(vectors, phase, at, slot >= len(losses) or losses[slot] == ".")
        if slot >= first and waiting > 0 and not phase.mute:
            waiting -= 1
            unknown.append(at)
        window = list(range(max(0, at - MOST_AGE + 1), at + 1))
        unknown = rows_unknown(vectors, unknown)
        vectors = parts_within(vectors, bits_of([*window, *unknown]))
        if waiting == 0 and not unknown:
            return slot
        if unknown and slot >= len(losses) + MOST_AGE - 1:
            return None
        at += 1
