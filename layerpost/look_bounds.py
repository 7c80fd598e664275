"""Looks at papers of sound flows, and at runs that meet the greatest delay, followed lane by lane."""

from layerpost.bounds import Alarm, Met, Sound, check_length, check_ways, check_sound
from layerpost.checks import is_integer, is_letter, is_within
from layerpost.follow import followed
from layerpost.legs import delays_at, legs_of, shares, trips_at
from layerpost.runs import Run

# Letters of told runs are taken up ahead of this tick, if the letter ahead of them can have ended by then.
MOST_TAKEN = 9999
MOST_FIRST_TRIP = 9000


def is_share(value, told):
    """Whether any value is this triple of the name of a link and two integers."""
    return value == told and is_integer(value[1]) and is_integer(value[2])


def are_shares(value, told):
    """Whether any value is the tuple of these shares."""
    if not isinstance(value, tuple) or len(value) != len(told):
        return False
    return all([is_share(one, other) for one, other in zip(value, told)])


def is_sound(legs, trips, paper):
    """Whether a Sound of any values is right."""
    trip, most = max(trips), legs.flow.most
    if trip > legs.flow.timeout or paper.trip != trip:
        return False
    if not is_within(paper.mark, 0, 1) or trips[paper.mark] != trip:
        return False
    return are_shares(paper.forth, shares(legs.forth, legs.cells_at(paper.mark, most))) and (
        are_shares(paper.back, shares(legs.back, legs.cells_at(paper.mark, 0))))


def are_early(first, ticks):
    """Whether ticks at which letters are taken up are as early as they have to be."""
    return max(trips_at(first, 0)) > MOST_FIRST_TRIP or all([tick <= MOST_TAKEN for tick in ticks])


def is_run_of(tables, value):
    """Whether any value is a run of the net of these tables."""
    return isinstance(value, Run) and value.net == tables.net


def is_alarm(tables, legs, trips, paper):
    """Whether an Alarm of any values is right."""
    if paper.trip != max(trips):
        return False
    if not is_run_of(tables, paper.run) or paper.run.fall is not None:
        return False
    flow = legs.flow.name
    if not are_early(legs, [tick for tick, _ in paper.run.contents_of(flow)]):
        return False
    return any([journey.way == "spare" for journey in followed(paper.run, tables, flow)])


def shows_sound(tables, flow, value):
    """Whether any value is a Sound of a flow that is sound, or an Alarm whose run has a time-out without a fall."""
    legs = legs_of(tables, flow, "first")
    trips = trips_at(legs, legs.flow.most)
    if isinstance(value, Sound):
        return is_sound(legs, trips, value)
    return isinstance(value, Alarm) and is_alarm(tables, legs, trips, value)


def is_last(run, flow, letter, length):
    """Whether any value is the last letter of a flow, of this length, with at most one ahead of it."""
    contents = run.contents_of(flow)
    if not is_letter(letter) or len(letter) != length or not 1 <= len(contents) <= 2:
        return False
    return contents[-1][1] == letter


def falls_right(first, fall, taken, way):
    """Whether nothing falls, for the first way; for the spare one whether a part of the first way falls at a tick."""
    if way == "first" or fall is None:
        return way == "first" and fall is None
    names = [link.name for link, _ in first.forth]
    return fall.tick == taken and fall.name in [*names, *first.houses]


def is_met(tables, first, way, most, paper):
    """Whether a run does what a Met of any values tells: its last letter takes so many ticks, behind the one ahead."""
    if not is_integer(paper.taken) or not is_integer(paper.there):
        return False
    if not falls_right(first, paper.run.fall, paper.taken, way) or not are_early(first, [paper.taken]):
        return False
    journeys = followed(paper.run, tables, first.flow.name)
    if len(journeys) < len(paper.run.contents_of(first.flow.name)):
        return False
    if len(journeys) == 2 and journeys[0].ended >= paper.taken:
        return False
    if journeys[-1].taken != paper.taken or journeys[-1].there != paper.there:
        return False
    return paper.there - paper.taken == most


def shows_met(tables, flow, length, way, value):
    """Whether any value is a Met whose run does what is told."""
    legs = legs_of(tables, flow, way)
    first = legs_of(tables, flow, "first")
    check_length(length, first.flow.most)
    if way == "spare":
        check_ways(first, legs)
    check_sound(first)
    if not isinstance(value, Met) or not is_run_of(tables, value.run):
        return False
    if not is_last(value.run, flow, value.letter, length):
        return False
    most = max(delays_at(legs, length)) + (first.flow.timeout if way == "spare" else 0)
    return is_met(tables, first, way, most, value)
