"""The greatest delays of ways, whether a flow is sound, and runs that meet what is told."""

from layerpost.checks import is_within
from layerpost.errors import BadNumber, Clashing, TooMany
from layerpost.growths import Growth
from layerpost.hops import hop_growth
from layerpost.legs import delays_at, legs_of, shares, ticks_for, trips_at, worse_mark
from layerpost.longest import longest_letter, most_cells
from layerpost.meets import Meeting
from layerpost.routes import are_ways_apart, check_net
from layerpost.runs import MOST_TICK
from layerpost.verdicts import Verdict

FARTHEST = 10 ** 30
MOST_DELAY = 10000


class Sound(Verdict):
    """No time-out comes without a fall: the greatest round trip, a mark that has it, its shares forth and back."""

    def __init__(self, trip, mark, forth, back):
        self.trip = trip
        self.mark = mark
        self.forth = forth
        self.back = back

    def __bool__(self):
        return True

    def __eq__(self, other):
        return isinstance(other, Sound) and self.trip == other.trip and self.mark == other.mark and (
            self.forth == other.forth) and self.back == other.back


class Alarm(Verdict):
    """A time-out can come without a fall: the greatest round trip, and a run in which one comes."""

    def __init__(self, trip, run):
        self.trip = trip
        self.run = run

    def __bool__(self):
        return False

    def __eq__(self, other):
        return isinstance(other, Alarm) and self.trip == other.trip and self.run == other.run


class Met:
    """A run whose last letter takes as long as can be: the letter, its taking up, its handing out."""

    def __init__(self, run, letter, taken, there):
        self.run = run
        self.letter = letter
        self.taken = taken
        self.there = there

    def __eq__(self, other):
        return isinstance(other, Met) and self.run == other.run and self.letter == other.letter and (
            self.taken == other.taken) and self.there == other.there


def check_mark(mark):
    """Raises if any value is no mark."""
    if not is_within(mark, 0, 1):
        raise BadNumber(mark)


def check_length(length, most):
    """Raises if any value is no length up to so many bits."""
    if not is_within(length, 0, most):
        raise BadNumber(length)


def cells_growth(net, mark=None):
    """The growth N: for each number of bits the most cells of a letter with a mark, or with any."""
    check_net(net)
    if mark is None:
        return most_cells(net.rule, net.size, "0") | most_cells(net.rule, net.size, "1")
    check_mark(mark)
    return most_cells(net.rule, net.size, str(mark))


def lane_growth(net, link, house, flow):
    """The growth G of the lane of a link that begins at a house."""
    check_net(net)
    lane = net.link_named(link).lane_from(house)
    net.flow_named(flow)
    return hop_growth(lane.plan, lane.rule, lane.ring, flow, lane.travel)


def summed_hops(legs, mark):
    """The growth D of a way for letters with a mark."""
    cells = legs.cells_of_marks()[mark]
    growths = [growth.after(cells) for _, growth in legs.forth]
    return Growth.summed(*growths)


def way_growth(tables, flow, way="first", mark=None):
    """The growth D of a way: for each number of bits the greatest delay of a letter with a mark, or with any."""
    legs = legs_of(tables, flow, way)
    if mark is not None:
        check_mark(mark)
        return summed_hops(legs, mark)
    return summed_hops(legs, 0) | summed_hops(legs, 1)


def answer_ticks(tables, flow, mark, way="first"):
    """The greatest delay B of an answer with a mark."""
    legs = legs_of(tables, flow, way)
    check_mark(mark)
    return ticks_for(legs.back, legs.cells_at(mark, 0))


def round_trip(tables, flow, way="first"):
    """The growth R of a way: for each number of bits the greatest round trip of a letter and its answer."""
    legs = legs_of(tables, flow, way)
    one, other = [summed_hops(legs, mark) + Growth.constant(ticks_for(legs.back, legs.cells_at(mark, 0)))
                  for mark in (0, 1)]
    return one | other


def lane_shares(tables, flow, length, way="first", mark=None):
    """What each lane of a way adds to the greatest delay: the tuple of the links, cells and ticks."""
    legs = legs_of(tables, flow, way)
    check_length(length, FARTHEST)
    if mark is not None:
        check_mark(mark)
    worst = worse_mark(delays_at(legs, length)) if mark is None else mark
    return shares(legs.forth, legs.cells_at(worst, length))


def answer_shares(tables, flow, mark, way="first"):
    """What each lane back adds to the greatest delay of an answer, from the end on."""
    legs = legs_of(tables, flow, way)
    check_mark(mark)
    return shares(legs.back, legs.cells_at(mark, 0))


def check_ways(legs, spare):
    """Raises unless the ways are apart and the flow is sound."""
    if not are_ways_apart(legs.houses, spare.houses):
        raise Clashing("ways")
    check_sound(legs)


def check_sound(legs):
    """Raises unless the flow of a first way is sound."""
    if legs.flow.timeout < max(trips_at(legs, legs.flow.most)):
        raise Clashing("timeout")


def greatest_delay(tables, flow, length, falls=0):
    """The greatest delay of a content of this length, without a fall or with one."""
    legs = legs_of(tables, flow, "first")
    check_length(length, legs.flow.most)
    if not is_within(falls, 0, 1):
        raise BadNumber(falls)
    if falls == 0:
        return max(delays_at(legs, length))
    spare = legs_of(tables, flow, "spare")
    check_ways(legs, spare)
    return max([*delays_at(legs, length), legs.flow.timeout + max(delays_at(spare, length))])


def contents_for(net, mark, length, taken):
    """The contents of a flow whose last letter is a worst one, taken up at a tick: for the mark 1 one is ahead."""
    letter = (taken, longest_letter(net.rule, length, str(mark))[1:])
    return [letter] if mark == 0 else [(0, ""), letter]


def sound(tables, flow):
    """Whether no time-out comes without a fall: a Sound, or an Alarm with a run in which one comes."""
    legs = legs_of(tables, flow, "first")
    most = legs.flow.most
    trips = trips_at(legs, most)
    if max(trips) <= legs.flow.timeout:
        mark = worse_mark(trips)
        forth = shares(legs.forth, legs.cells_at(mark, most))
        return Sound(max(trips), mark, forth, shares(legs.back, legs.cells_at(mark, 0)))
    # The letter ahead of one with the mark 1 has no time-out if the mark 0 cannot have one.
    mark = 0 if trips[0] > legs.flow.timeout else 1
    meeting = Meeting(legs)
    meeting.go_along(legs, legs.cells_at(mark, most), True)
    meeting.go_along(legs, legs.cells_at(mark, 0), False)
    taken = meeting.first_tick(mark)
    return Alarm(max(trips), meeting.run_at(taken).with_contents(flow, contents_for(legs.net, mark, most, taken)))


def worst_run(tables, flow, length, way="first"):
    """A run whose last letter has this length and the greatest delay that such can have by a way."""
    legs = legs_of(tables, flow, way)
    first = legs_of(tables, flow, "first")
    check_length(length, legs.flow.most)
    if way == "spare":
        check_ways(first, legs)
    check_sound(first)
    delays = delays_at(legs, length)
    if max(delays) > MOST_DELAY:
        raise TooMany("ticks", MOST_TICK)
    mark = worse_mark(delays)
    meeting = Meeting(first)
    if way == "spare":
        meeting.wait(legs.flow.timeout)
    meeting.go_along(legs, legs.cells_at(mark, length), True)
    taken = meeting.first_tick(mark)
    contents = contents_for(legs.net, mark, length, taken)
    run = meeting.run_at(taken).with_contents(flow, contents)
    if way == "spare":
        run = meeting.falling(run, taken)
    return Met(run, contents[-1][1], taken, taken + meeting.offset)


def exchange_ticks(tables, flow):
    """How many ticks behind the last taking up by a hue nothing of this hue can be under way."""
    first = legs_of(tables, flow, "first")
    spare = legs_of(tables, flow, "spare")
    most = first.flow.most
    return max([*trips_at(first, most), first.flow.timeout + max(trips_at(spare, most))])
