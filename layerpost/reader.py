"""Reads pages: nets, tables, runs and stacks."""

from layerpost.cells import MOST_SIZE
from layerpost.checks import WAYS, is_name
from layerpost.cursors import Page
from layerpost.errors import BadText
from layerpost.machines import MOST_SLOTS
from layerpost.nets import MOST_HOUSES, MOST_LENGTH, MOST_TIMEOUT, MOST_TRAVEL, Flow, Lane, Link, Net
from layerpost.routes import check_net
from layerpost.runs import MOST_TICK, Fall, Run
from layerpost.stacks import Stack
from layerpost.tables import Tables


def take_houses(cursor):
    """The list of the houses of a line."""
    houses = [cursor.take_name()]
    while len(houses) < 2 or cursor.here() != "" and len(houses) < MOST_HOUSES:
        house = cursor.here()
        houses.append(cursor.take_if(is_name(house) and house not in houses))
    cursor.end_line()
    return houses


def take_lane(page, word):
    """The Lane of the next three lines."""
    cursor = page.line_of(word)
    travel = cursor.take_number(0, MOST_TRAVEL)
    ring = cursor.take_part("round", None)
    plan = page.line_of("plan").take_part("plan", None)
    rule = page.line_of("rule").take_part("rule", None)
    return Lane(ring, travel, plan, rule)


def take_link(page, cursor):
    """The Link of a line and the next six ones."""
    name, one, other = cursor.take_name(), cursor.take_name(), cursor.take_name()
    cursor.end_line()
    there = take_lane(page, "there")
    back = take_lane(page, "back")
    return Link(name, one, other, there, back)


def take_flow(cursor):
    """The Flow of a line."""
    name, begin, end = cursor.take_name(), cursor.take_name(), cursor.take_name()
    most = cursor.take_number(0, MOST_LENGTH)
    timeout = cursor.take_number(1, MOST_TIMEOUT)
    cursor.end_line()
    return Flow(name, begin, end, most, timeout)


def read_net(text):
    """The net with this page."""
    page = Page(text)
    cursor = page.line_of("net")
    size = cursor.take_number(1, MOST_SIZE)
    rule = cursor.take_part("frame", None)
    houses = take_houses(page.line_of("houses"))
    links = []
    flows = []
    while not page.is_over():
        word, cursor = page.next_line(["flow"] if flows else ["link", "flow"])
        if word == "link":
            links.append(take_link(page, cursor))
        else:
            flows.append(take_flow(cursor))
    return Net(houses, links, flows, rule, size)


def take_row(net, cursor, last):
    """The triple and the next house of a line of tables; the triple is above the last one."""
    house = cursor.take_word(net.houses)
    flow = cursor.take_word([told.name for told in net.flows])
    way = cursor.here()
    cursor.take_if(way in WAYS and (house, flow, way) > last)
    other = cursor.take_word(net.near(house))
    cursor.end_line()
    return (house, flow, way), other


def read_tables(net, text):
    """The tables of a net with this page."""
    check_net(net)
    page = Page(text)
    rows = {}
    last = ()
    while not page.is_over():
        word, cursor = page.next_line(["next"] if rows else ["next", "-"])
        if word == "-":
            cursor.end_line()
            if not page.is_over():
                raise BadText(page.at, 0)
            return Tables(net)
        last, other = take_row(net, cursor, last)
        rows[last] = other
    return Tables(net, rows)


class Draft:
    """What the lines of the page of a run have told so far."""

    def __init__(self, net):
        self.net = net
        self.places = {}
        self.phases = {}
        self.losses = {}
        self.contents = {}
        self.fall = None

    def take_end(self, cursor):
        """The link of a lane, and the house where it begins, which the next word tells."""
        link = self.net.link_named(cursor.take_word([told.name for told in self.net.links]))
        return link, cursor.here()

    def take_place(self, cursor):
        """A line that tells the place of a lane."""
        link, house = self.take_end(cursor)
        key = (link.name, house)
        # Told ones ascend, so the last one is the greatest one.
        cursor.take_if(house in link and key > max([(), *self.places]))
        self.places[key] = cursor.take_number(1, len(link.lane_from(house).ring) - 1)
        cursor.end_line()

    def take_losses(self, cursor):
        """A line that tells the phase and the losses of a line."""
        link, house = self.take_end(cursor)
        cursor.take_if(house in link)
        lane = link.lane_from(house)
        flow = cursor.here()
        key = (link.name, house, flow)
        is_there = flow in [told.name for told in self.net.flows] and lane.carries(flow)
        cursor.take_if(is_there and key > max([(), *self.phases]))
        phase = cursor.take_number(0, len(lane.plan) - 1)
        losses = cursor.here()
        if losses == "-":
            cursor.take_if(phase > 0)
            losses = ""
        else:
            is_let = losses.strip(".x") == "" and len(losses) <= MOST_SLOTS and lane.rule.lets(losses)
            cursor.take_if(is_let and losses.endswith("x"))
        cursor.end_line()
        self.phases[key] = phase
        self.losses[key] = losses

    def take_letter(self, cursor):
        """A line that tells a letter of a flow."""
        names = [told.name for told in self.net.flows]
        flow = cursor.take_word([name for name in names if name >= max(["", *self.contents])])
        pairs = self.contents.get(flow, [])
        tick = cursor.take_number(pairs[-1][0] if pairs else 0, MOST_TICK)
        letter = cursor.take_signs("01", self.net.flow_named(flow).most)
        cursor.end_line()
        self.contents[flow] = [*pairs, (tick, letter)]

    def take_fall(self, cursor):
        """The line that tells what falls."""
        name = cursor.take_word([*self.net.houses, *[link.name for link in self.net.links]])
        cursor.take_word(["at"])
        self.fall = Fall(cursor.take_number(0, MOST_TICK), name)
        cursor.end_line()

    def take_line(self, word, cursor):
        """A line that begins with this word."""
        if word == "place":
            self.take_place(cursor)
        elif word == "line":
            self.take_losses(cursor)
        elif word == "letter":
            self.take_letter(cursor)
        else:
            self.take_fall(cursor)


def read_run(net, text):
    """The run of a net with this page."""
    check_net(net)
    page = Page(text)
    page.line_of("run").end_line()
    draft = Draft(net)
    words = ["place", "line", "letter", "fall"]
    while not page.is_over():
        word, cursor = page.next_line(words)
        draft.take_line(word, cursor)
        words = [] if word == "fall" else words[words.index(word):]
    return Run(net, draft.places, draft.phases, draft.losses, draft.contents, draft.fall)


def read_stack(text):
    """The stack with this page."""
    page = Page(text)
    cursor = page.line_of("stack")
    size = cursor.take_number(1, MOST_SIZE)
    frames = cursor.take_part("frame", None)
    plan = page.line_of("plan").take_part("plan", None)
    rule = page.line_of("rule").take_part("rule", None)
    cursor = page.line_of("lane")
    travel = cursor.take_number(0, MOST_TRAVEL)
    flow = cursor.take_name()
    ring = cursor.take_part("round", None)
    if not page.is_over():
        raise BadText(page.at, 0)
    return Stack(frames, size, plan, rule, ring, flow, travel)
