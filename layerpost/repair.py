"""How rows of a line are known again when slots are lost: how late at most, told exactly."""

from layerpost.checks import is_within
from layerpost.errors import BadLosses, BadPlan, BadRule, NoPhase, Nothing, TooMany
from layerpost.growths import Growth
from layerpost.losses import LossRule
from layerpost.machines import is_losses
from layerpost.plans import Plan
from layerpost.standings import Course, all_behind, all_standings, endless_trails, first_trails, ring_of, way_to
from layerpost.vectors import heard_vectors
from layerpost.verdicts import Verdict

MOST_ROWS = 20000


class Closed(Verdict):
    """Each row is known at last: the delays of the phases, and a table that shows it."""

    def __init__(self, delays, table):
        self.delays = delays
        self.table = table

    def __bool__(self):
        return True

    def __eq__(self, other):
        return isinstance(other, Closed) and self.delays == other.delays and self.table == other.table


class Never(Verdict):
    """A row need never be known: losses that lead to where it is not known, and round from there."""

    def __init__(self, begin, before, lost, again):
        self.begin = begin
        self.before = before
        self.lost = lost
        self.again = again

    def __bool__(self):
        return False

    def __eq__(self, other):
        return isinstance(other, Never) and self.begin == other.begin and self.before == other.before and (
            self.lost == other.lost) and self.again == other.again


class Worst:
    """Losses behind which a row is not known yet."""

    def __init__(self, begin, before, losses):
        self.begin = begin
        self.before = before
        self.losses = losses

    def __eq__(self, other):
        return isinstance(other, Worst) and self.begin == other.begin and self.before == other.before and (
            self.losses == other.losses)


def check_line(plan, rule):
    """Raises if these are no plan and no rule."""
    if not isinstance(plan, Plan):
        raise BadPlan("plan")
    if not isinstance(rule, LossRule):
        raise BadRule("rule")


def masks_at(phase, at):
    """What the kept slot with an index tells, as masks, the bit n being the row of the slot n.

    Rows ahead of the first slot are known, so they take no part in a sum.
    """
    masks = [sum([1 << (at - age) for age in ages if age <= at]) for ages in phase.sums]
    return masks if phase.mute else [1 << at, *masks]


def vectors_behind(vectors, phase, at, is_kept):
    """The differences of all rows so far behind the slot with an index."""
    behind = list(vectors)
    if not phase.mute:
        behind.append(1 << at)
    if is_kept:
        for mask in masks_at(phase, at):
            behind = heard_vectors(behind, mask)
    return behind


def known_at(plan, begin, losses):
    """For each slot from a phase on the index of the slot in which its row is known, None if it is not."""
    if not isinstance(plan, Plan):
        raise BadPlan("plan")
    if not is_within(begin, 0, len(plan.phases) - 1):
        raise NoPhase(begin)
    if not is_losses(losses):
        raise BadLosses(losses)
    known = [None for _ in losses]
    unknown = []
    vectors = []
    for at, slot in enumerate(losses):
        phase = plan.phases[(begin + at) % len(plan.phases)]
        vectors = vectors_behind(vectors, phase, at, slot == ".")
        if not phase.mute:
            unknown.append(at)
        differing = 0
        for vector in vectors:
            differing = differing | vector
        for row in unknown:
            if (differing >> row) & 1 == 0:
                known[row] = at
        unknown = [row for row in unknown if known[row] is None]
    return tuple(known)


def layers_of(course, standings, own, room):
    """The list of dicts, one for each number of slots behind: the trails of rows of a phase.

    Each is told with the trail ahead of it and the slot, the first ones with the
    standing ahead. An error if there are more trails than there is room for.
    """
    first = first_trails(course, [standing for standing in standings if standing[0] == own])
    layers = []
    layer = {trail: (first[trail], "x") for trail in first}
    left = room
    while layer:
        left = left - len(layer)
        if left < 0:
            raise TooMany("rows", MOST_ROWS)
        layers.append(layer)
        layer = next_layer(course, layer)
    return layers


def next_layer(course, layer):
    """The trails one slot behind these."""
    after = {}
    for trail in layer:
        for slot, row in course.next_trails(trail):
            if row not in after:
                after[row] = (trail, slot)
    return after


def never_of(course, standings, first, trails, endless):
    """The paper of a row that need never be known."""
    end, again = ring_of(course, endless)
    trail, slots = way_to(trails, end)
    standing, before = way_to(standings, first[trail])
    return Never(standing[0], before, "x" + slots, again)


def looked_through(plan, rule):
    """The Never of a plan under a rule, or else None, with the course and the dict of all standings."""
    course = Course(plan, rule)
    standings = all_standings(course)
    first = first_trails(course, standings)
    trails = all_behind(course, list(first), True)
    endless = endless_trails(course, trails)
    if endless:
        return never_of(course, standings, first, trails, endless), course, standings
    return None, course, standings


def all_layers(course, standings):
    """For each phase the layers of its rows; an error if the table of all is too great."""
    if len(standings) > MOST_ROWS:
        raise TooMany("rows", MOST_ROWS)
    rows = []
    room = MOST_ROWS - len(standings)
    for own in range(len(course.phases)):
        layers = layers_of(course, standings, own, room)
        room = room - sum([len(layer) for layer in layers])
        rows.append(layers)
    return rows


def repaired(plan, rule):
    """Whether each row is known at last, whatever losses are let: a Closed or a Never."""
    check_line(plan, rule)
    never, course, standings = looked_through(plan, rule)
    if never is not None:
        return never
    rows = all_layers(course, standings)
    table = list(standings)
    delays = []
    for own, layers in enumerate(rows):
        delays.append(None if course.is_mute(own) else len(layers))
        for since, layer in enumerate(layers):
            table.extend([(own, since, phase, place, basis) for phase, place, basis in layer])
    return Closed(tuple(delays), tuple(table))


def phase_delays(plan, rule):
    """The delays of the phases, None if a row need never be known."""
    answer = repaired(plan, rule)
    return answer.delays if answer else None


def worst_losses(plan, rule, phase):
    """As many losses as the delay of a phase, behind which a row of it is known only with the next slot."""
    check_line(plan, rule)
    if not is_within(phase, 0, len(plan.phases) - 1) or plan.phases[phase].mute:
        raise NoPhase(phase)
    never, course, standings = looked_through(plan, rule)
    if never is not None:
        raise Nothing()
    layers = all_layers(course, standings)[phase]
    if not layers:
        return Worst(phase, "", "")
    here = list(layers[-1])[0]
    slots = []
    for layer in layers[::-1]:
        here, slot = layer[here]
        slots.append(slot)
    standing, before = way_to(standings, here)
    return Worst(standing[0], before, "".join(slots[::-1]))


def needed_from(plan, delays, begin, many):
    """The list, for 0 to so many rows, of the own slots from a phase on to the one behind which they are known."""
    needed = [0]
    slot = 0
    while len(needed) <= many:
        phase = (begin + slot) % len(plan.phases)
        slot += 1
        if delays[phase] is not None:
            needed.append(max(needed[-1], slot + delays[phase]))
    return needed


def slots_needed(plan, rule):
    """The growth m: for n rows the most own slots to the one behind which all of them are known."""
    delays = phase_delays(plan, rule)
    if delays is None:
        raise Nothing()
    rows = len(delays) - delays.count(None)
    lines = [needed_from(plan, delays, begin, 2 * rows) for begin in range(len(delays))]
    most = [max(values) for values in zip(*lines)]
    # Behind one round of rows each row is one round of slots later than the one a round ahead.
    gains = [most[at] - most[at - 1] for at in range(rows + 1, 2 * rows + 1)]
    return Growth(most[:rows + 1], gains)
