"""Runs: what a net leaves open, and what of it falls."""

from layerpost.checks import is_letter, is_name, is_within
from layerpost.errors import BadLetter, BadLosses, BadName, BadNumber, BadRun, BadText, NoLane, NoLine, NoName, NoPhase
from layerpost.errors import TooMany
from layerpost.machines import is_losses
from layerpost.routes import check_net
from layerpost.words import number_of, words_of

MOST_TICK = 20000
MOST_LETTERS = 40


class Fall:
    """A link or a house falls at a tick. It never changes."""

    def __init__(self, tick, name):
        if not is_within(tick, 0, MOST_TICK):
            raise BadNumber(tick)
        if not is_name(name):
            raise BadName(name)
        self.tick = tick
        self.name = name

    def __eq__(self, other):
        return isinstance(other, Fall) and self.tick == other.tick and self.name == other.name

    def __str__(self):
        return f"{self.name} at {self.tick}"

    @classmethod
    def read(cls, text):
        """The fall with this text."""
        words = words_of(text)
        if not is_name(words[0]):
            raise BadText(0, 0)
        if words[1:2] != ["at"]:
            raise BadText(0, 1)
        tick = number_of(words[2]) if len(words) > 2 else None
        if not is_within(tick, 0, MOST_TICK):
            raise BadText(0, 2)
        if len(words) > 3:
            raise BadText(0, 3)
        return cls(tick, words[0])


def lane_at(net, key):
    """The lane that any value tells: the name of its link, and the house where it begins."""
    if isinstance(key, tuple) and len(key) == 2:
        for link in net.links:
            if key[0] == link.name and key[1] in link:
                return link.lane_from(key[1])
    raise NoLane(key)


def line_lane(net, key):
    """The lane of the line that any value tells: the name of the link, the house, and the name of the flow."""
    if isinstance(key, tuple) and len(key) == 3:
        for link in net.links:
            if key[0] == link.name and key[1] in link and key[2] in [flow.name for flow in net.flows]:
                lane = link.lane_from(key[1])
                if lane.carries(key[2]):
                    return lane
    raise NoLine(key)


def check_place(net, key, place):
    """Raises if any values are no lane, and no place of its round."""
    if not is_within(place, 0, len(lane_at(net, key).ring) - 1):
        raise BadNumber(place)


def check_phase(net, key, phase):
    """Raises if any values are no line, and no phase of its plan."""
    if not is_within(phase, 0, len(line_lane(net, key).plan) - 1):
        raise NoPhase(phase)


def check_losses(net, key, losses):
    """Raises if any values are no line, and no losses that its rule lets."""
    lane = line_lane(net, key)
    if not is_losses(losses) or not lane.rule.lets(losses):
        raise BadLosses(losses)


def are_timed(pairs):
    """Whether any value is a row of pairs of a tick and something, the ticks not falling."""
    if not isinstance(pairs, (list, tuple)) or len(pairs) > MOST_LETTERS:
        return False
    if not all([isinstance(pair, tuple) and len(pair) == 2 and is_within(pair[0], 0, MOST_TICK) for pair in pairs]):
        return False
    return all([pairs[at - 1][0] <= pairs[at][0] for at in range(1, len(pairs))])


def check_contents(net, key, pairs):
    """Raises if any values are no flow, and no pairs of a tick and a letter for it."""
    most = net.flow_named(key).most
    if not are_timed(pairs):
        raise BadRun("letters")
    for _, letter in pairs:
        if not is_letter(letter):
            raise BadLetter(letter)
    if max([len(letter) for _, letter in pairs], default=0) > most:
        raise TooMany("signs", most)


def check_fall(net, fall):
    """Raises if a fall is of nothing in the net, or of a house at which a flow begins or ends."""
    if fall is None:
        return
    if fall.name not in net or fall.name in [flow.name for flow in net.flows]:
        raise NoName(fall.name)
    if fall.name in [house for flow in net.flows for house in (flow.begin, flow.end)]:
        raise BadRun("house")


def told_entries(part, table):
    """The dict that any value is; None stands for an empty one."""
    if table is None:
        return {}
    if not isinstance(table, dict):
        raise BadRun(part)
    return table


def with_entry(table, key, value):
    """A copy of a dict with another entry."""
    copy = {at: table[at] for at in table}
    copy[key] = value
    return copy


def joined_entries(one, other):
    """A copy of a dict with all entries of another one."""
    copy = {at: one[at] for at in one}
    for at in other:
        copy[at] = other[at]
    return copy


class Run:
    """What a net leaves open. It never changes.

    Its dicts keep only what is told: no place 0, no phase 0, no losses without a
    lost slot, no contents without a letter.
    """

    def __init__(self, net, places=None, phases=None, losses=None, contents=None, fall=None):
        check_net(net)
        places = told_entries("places", places)
        phases = told_entries("phases", phases)
        losses = told_entries("losses", losses)
        contents = told_entries("contents", contents)
        if fall is not None and not isinstance(fall, Fall):
            raise BadRun("fall")
        for key in places:
            check_place(net, key, places[key])
        for key in phases:
            check_phase(net, key, phases[key])
        for key in losses:
            check_losses(net, key, losses[key])
        for key in contents:
            check_contents(net, key, contents[key])
        check_fall(net, fall)
        self.net = net
        self.fall = fall
        self.places = {key: places[key] for key in places if places[key] > 0}
        self.phases = {key: phases[key] for key in phases if phases[key] > 0}
        self.losses = {key: losses[key].rstrip(".") for key in losses if "x" in losses[key]}
        self.contents = {key: tuple(contents[key]) for key in contents if len(contents[key]) > 0}

    def place_of(self, lane):
        """The place of a lane's round at the tick 0."""
        lane_at(self.net, lane)
        return self.places.get(lane, 0)

    def phase_of(self, line):
        """The phase of the first own slot of a line."""
        line_lane(self.net, line)
        return self.phases.get(line, 0)

    def losses_of(self, line):
        """The losses of a line, without kept slots at their end."""
        line_lane(self.net, line)
        return self.losses.get(line, "")

    def contents_of(self, flow):
        """The tuple of the pairs of a tick and a letter of a flow."""
        self.net.flow_named(flow)
        return self.contents.get(flow, ())

    def told_lanes(self):
        """The lanes with a place above 0, ascending."""
        yield from sorted(list(self.places))

    def told_lines(self):
        """The lines with a phase above 0 or a lost slot, ascending."""
        yield from sorted(set([*self.phases, *self.losses]))

    def with_place(self, lane, place):
        """The run with another place of a lane."""
        check_place(self.net, lane, place)
        places = with_entry(self.places, lane, place)
        return Run(self.net, places, self.phases, self.losses, self.contents, self.fall)

    def with_line(self, line, phase, losses):
        """The run with another phase and other losses of a line."""
        check_phase(self.net, line, phase)
        check_losses(self.net, line, losses)
        phases = with_entry(self.phases, line, phase)
        told = with_entry(self.losses, line, losses)
        return Run(self.net, self.places, phases, told, self.contents, self.fall)

    def with_contents(self, flow, pairs):
        """The run with other contents of a flow."""
        check_contents(self.net, flow, pairs)
        contents = with_entry(self.contents, flow, pairs)
        return Run(self.net, self.places, self.phases, self.losses, contents, self.fall)

    def with_fall(self, fall):
        """The run with another fall, or with none."""
        return Run(self.net, self.places, self.phases, self.losses, self.contents, fall)

    def on_net(self, net):
        """The run on another net."""
        return Run(net, self.places, self.phases, self.losses, self.contents, self.fall)

    def joined(self, other):
        """The run with all that another one of an equal net tells, in the place of what this one tells."""
        if not isinstance(other, Run) or not other.net == self.net:
            raise BadRun("other")
        return Run(self.net, joined_entries(self.places, other.places), joined_entries(self.phases, other.phases),
                   joined_entries(self.losses, other.losses), joined_entries(self.contents, other.contents),
                   self.fall if other.fall is None else other.fall)

    def __eq__(self, other):
        return isinstance(other, Run) and self.net == other.net and self.fall == other.fall and (
            self.places == other.places) and self.phases == other.phases and (
            self.losses == other.losses) and self.contents == other.contents
