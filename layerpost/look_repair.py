"""Looks at papers of repair: each looker walks along what it is shown, and searches nothing."""

from layerpost.checks import is_from_zero, is_within
from layerpost.errors import BadNumber, NoPhase
from layerpost.machines import MOST_SLOTS, is_slots
from layerpost.repair import MOST_ROWS, Closed, Never, Worst, check_line
from layerpost.standings import Course
from layerpost.vectors import basis_of


def is_basis(value, width):
    """Whether any value is the basis of a Space of this width."""
    if not isinstance(value, tuple) or not all([is_within(vector, 1, (1 << width) - 1) for vector in value]):
        return False
    return basis_of(value) == value


def is_told_so(course, values, width):
    """Whether three of any values are a phase, a place, and a basis of this width."""
    phase, place, basis = values
    if not is_within(phase, 0, len(course.phases) - 1) or not is_within(place, 0, len(course.leads) - 1):
        return False
    return is_basis(basis, width)


def is_row(course, delays, row):
    """Whether any value is a row of a table, with a number of slots below the delay of its phase."""
    if not isinstance(row, tuple):
        return False
    if len(row) == 3:
        return is_told_so(course, row, 4)
    if len(row) != 5 or not is_told_so(course, row[2:], 5):
        return False
    own, since = row[:2]
    if not is_within(own, 0, len(course.phases) - 1) or course.is_mute(own):
        return False
    return is_within(since, 0, delays[own] - 1)


def rows_ahead(course, row):
    """The list of the rows that stand in a table with this one."""
    if len(row) == 5:
        own, since = row[:2]
        return [(own, since + 1, *trail) for _, trail in course.next_trails(row[2:])]
    rows = [standing for _, standing in course.next_standings(row)]
    trail = course.first_trail(row)
    if trail is not None:
        rows.append((row[0], 0, *trail))
    return rows


def are_delays(course, delays):
    """Whether any value is a tuple of the delays of the phases, None for the mute ones."""
    if not isinstance(delays, tuple) or len(delays) != len(course.phases):
        return False
    return all([delay is None if course.is_mute(phase) else is_from_zero(delay) for phase, delay in enumerate(delays)])


def is_closed(course, delays, table):
    """Whether any values are delays and a table that shows them."""
    if not are_delays(course, delays) or not isinstance(table, tuple) or len(table) > MOST_ROWS:
        return False
    if not all([is_row(course, delays, row) for row in table]):
        return False
    told = {row: True for row in table}
    begins = [(phase, 0, ()) for phase in range(len(course.phases))]
    if not all([row in told for row in begins]):
        return False
    return all([after in told for row in table for after in rows_ahead(course, row)])


def behind_slots(course, begin, slots, is_trail):
    """The standing, or the trail, behind slots from one on; None if they are not let, or the row is known."""
    here = begin
    for slot in slots:
        after = [behind for told, behind in course.onward(here, is_trail) if told == slot]
        if not after:
            return None
        here = after[0]
    return here


def trail_behind_all(course, begin, before, losses):
    """The trail behind losses that begin with the slot of its row, None if they are not let, or the row is known."""
    standing = behind_slots(course, (begin, 0, ()), before, False)
    if standing is None or losses[:1] != "x":
        return None
    trail = course.first_trail(standing)
    if trail is None:
        return None
    return behind_slots(course, trail, losses[1:], True)


def is_never(course, value):
    """Whether a Never leads round where a row is not known."""
    if not is_within(value.begin, 0, len(course.phases) - 1):
        return False
    if not is_slots(value.before) or not is_slots(value.lost) or not is_slots(value.again) or value.again == "":
        return False
    trail = trail_behind_all(course, value.begin, value.before, value.lost)
    return trail is not None and behind_slots(course, trail, value.again, True) == trail


def shows_repaired(plan, rule, value):
    """Whether any value is a Closed whose table shows its delays, or a Never that leads round."""
    check_line(plan, rule)
    course = Course(plan, rule)
    if isinstance(value, Closed):
        return is_closed(course, value.delays, value.table)
    return isinstance(value, Never) and is_never(course, value)


def shows_worst(plan, rule, phase, many, value):
    """Whether any value is a Worst of a phase with so many losses."""
    check_line(plan, rule)
    course = Course(plan, rule)
    if not is_within(phase, 0, len(course.phases) - 1) or course.is_mute(phase):
        raise NoPhase(phase)
    if not is_within(many, 0, MOST_SLOTS):
        raise BadNumber(many)
    if not isinstance(value, Worst) or not is_within(value.begin, 0, len(course.phases) - 1):
        return False
    if not is_slots(value.before) or not is_slots(value.losses) or len(value.losses) != many:
        return False
    standing = behind_slots(course, (value.begin, 0, ()), value.before, False)
    if standing is None or standing[0] != phase:
        return False
    return many == 0 or trail_behind_all(course, value.begin, value.before, value.losses) is not None
