"""How a line stands ahead of its own slots, and how a row that is not known goes on.

A standing is a triple: the phase of the next slot, the place of the loss rule,
and a basis of the width 4, whose bit k is the row of the slot k + 1 slots ago.
The trail of a row is such a triple with a basis of the width 5, the bit 4 being
that row, as long as it is not known.
"""

from layerpost.vectors import basis_of, heard_vectors
from layerpost.walks import steps_to, without_rings

WINDOW = 15
TRAILED = 16


def masks_of(phase):
    """What a kept slot tells, as masks: its own row, the bit 0, unless it is mute, and its sums, an age being a bit."""
    masks = [sum([1 << age for age in ages]) for ages in phase.sums]
    return masks if phase.mute else [1, *masks]


class Course:
    """How standings and trails of a plan go on under a loss rule.

    What a slot does to a basis hangs on the phase alone, so it is kept, and
    reckoned once for all places of the rule.
    """

    def __init__(self, plan, rule):
        self.phases = plan.phases
        self.masks = [masks_of(phase) for phase in plan.phases]
        self.leads = rule.places
        self.short = {}
        self.long = {}

    def is_mute(self, phase):
        """Whether slots of this phase make no row."""
        return self.phases[phase].mute

    def let_slots(self, place):
        """The list of the slots that are let at a place of the rule, each with the place behind it."""
        kept, lost = self.leads[place]
        if lost is None:
            return [(".", kept)]
        return [(".", kept), ("x", lost)]

    def behind(self, phase, basis, slot):
        """The vectors behind a slot, one place up, the bit 0 being the row of the slot."""
        vectors = [vector << 1 for vector in basis]
        if not self.is_mute(phase):
            vectors.append(1)
        if slot == ".":
            for mask in self.masks[phase]:
                vectors = heard_vectors(vectors, mask)
        return vectors

    def basis_behind(self, phase, basis, slot):
        """The basis of the standing behind a slot."""
        key = (phase, basis, slot)
        if key not in self.short:
            self.short[key] = basis_of([vector & WINDOW for vector in self.behind(phase, basis, slot)])
        return self.short[key]

    def trail_behind(self, phase, basis, slot):
        """The basis of a trail behind a slot."""
        key = (phase, basis, slot)
        if key not in self.long:
            vectors = self.behind(phase, basis, slot)
            # The slot has moved the row that is trailed one place up, as all others.
            self.long[key] = basis_of([(vector & WINDOW) | ((vector >> 1) & TRAILED) for vector in vectors])
        return self.long[key]

    def next_phase(self, phase):
        """The phase behind this one."""
        return (phase + 1) % len(self.phases)

    def next_standings(self, standing):
        """The list of the slots that are let, each with the standing behind it."""
        phase, place, basis = standing
        after = self.next_phase(phase)
        return [(slot, (after, lead, self.basis_behind(phase, basis, slot))) for slot, lead in self.let_slots(place)]

    def next_trails(self, trail):
        """The list of the slots behind which the row is still not known, each with the trail behind it."""
        phase, place, basis = trail
        after = self.next_phase(phase)
        trails = [(slot, (after, lead, self.trail_behind(phase, basis, slot))) for slot, lead in self.let_slots(place)]
        return [(slot, row) for slot, row in trails if is_open(row)]

    def onward(self, here, is_trail):
        """The next trails of a trail, or the next standings of a standing."""
        return self.next_trails(here) if is_trail else self.next_standings(here)

    def first_trail(self, standing):
        """The trail of the row of the next slot, which is lost; None if it is mute, or may not be lost."""
        phase, place, basis = standing
        lead = self.leads[place][1]
        if lead is None or self.is_mute(phase):
            return None
        vectors = self.behind(phase, basis, "x")
        trailed = basis_of([(vector & WINDOW) | ((vector & 1) * TRAILED) for vector in vectors])
        return self.next_phase(phase), lead, trailed


def is_open(trail):
    """Whether the row of a trail is not known."""
    return any([vector & TRAILED for vector in trail[2]])


def all_behind(course, begins, are_trails):
    """A dict of all trails, or all standings, behind some: to each the one ahead of it and the slot.

    To those at which the walk begins None is told.
    """
    found = {begin: None for begin in begins}
    order = list(found)
    at = 0
    while at < len(order):
        here = order[at]
        at += 1
        for slot, after in course.onward(here, are_trails):
            if after not in found:
                found[after] = (here, slot)
                order.append(after)
    return found


def all_standings(course):
    """A dict of all standings that come up, told as above."""
    return all_behind(course, [(phase, 0, ()) for phase in range(len(course.phases))], False)


def first_trails(course, standings):
    """A dict from the trails right behind a lost slot, as they come up, to the standings ahead of this slot."""
    first = {}
    for standing in standings:
        trail = course.first_trail(standing)
        if trail is not None and trail not in first:
            first[trail] = standing
    return first


def way_to(found, end):
    """What came first on the way to a standing or a trail, and the slots from there on."""
    here, slots = steps_to(found, end)
    return here, "".join(slots)


def endless_trails(course, trails):
    """The dict of the trails that can go on without an end: those from which a ring can be reached."""
    after = {trail: [row for _, row in course.next_trails(trail)] for trail in trails}
    done = {trail: True for trail in without_rings(after)}
    return {trail: True for trail in trails if trail not in done}


def ring_of(course, endless):
    """A trail that comes again, and the slots that lead round; endless is not empty."""
    here = list(endless)[0]
    steps = {}
    slots = []
    while here not in steps:
        steps[here] = len(slots)
        onward = [(slot, row) for slot, row in course.next_trails(here) if row in endless]
        slot, here = onward[0]
        slots.append(slot)
    return here, "".join(slots[steps[here]:])
