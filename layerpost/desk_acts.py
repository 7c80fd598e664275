"""What the lines of a desk do: each makes a new Board of one, and of the values of the line."""

from layerpost.checks import WAYS
from layerpost.errors import NoLink
from layerpost.nets import Flow, Lane, Link, Net
from layerpost.player import Player
from layerpost.routes import apart
from layerpost.runs import Fall, Run
from layerpost.tables import Tables


class Board:
    """What a desk keeps: a net, tables, a run, and perhaps a play of these; None without one. It never changes."""

    def __init__(self, net, tables, run, play):
        self.net = net
        self.tables = tables
        self.run = run
        self.play = play


def first_tables(net):
    """The tables of the beginning: ways that are apart for each flow that has such."""
    tables = Tables(net)
    for flow in net.flows:
        ways = apart(net, flow.name)
        if ways:
            for way, houses in zip(WAYS, (ways.main, ways.spare)):
                tables = tables.laid(flow.name, way, houses)
    return tables


def with_net(net):
    """The board of another net: all else is as in the beginning."""
    return Board(net, first_tables(net), Run(net), None)


def with_run(board, run):
    """The board with another run, and no play."""
    return Board(board.net, board.tables, run, None)


def joining(net, one, other):
    """The link of the lane from a house to another one."""
    link = net.between(one, other)
    if link is None:
        raise NoLink(one)
    return link


def with_lane(net, link, house, lane):
    """The net with another lane of a link from a house."""
    if house == link.one:
        return net | Link(link.name, link.one, link.other, lane, link.back)
    return net | Link(link.name, link.one, link.other, link.there, lane)


def do_net(board, values):
    """A new net without links and flows."""
    size, houses, rule = values
    return with_net(Net(houses, [], [], rule, size))


def do_link(board, values):
    """A link of lanes without plans and rules."""
    name, one, other, travel, there, back = values
    return with_net(board.net | Link(name, one, other, Lane(there, travel), Lane(back, travel)))


def do_round(board, values):
    """Another round of a lane."""
    one, other, ring = values
    link = joining(board.net, one, other)
    lane = link.lane_from(one)
    return with_net(with_lane(board.net, link, one, Lane(ring, lane.travel, lane.plan, lane.rule)))


def do_plan(board, values):
    """Another plan of a lane."""
    one, other, plan = values
    link = joining(board.net, one, other)
    lane = link.lane_from(one)
    return with_net(with_lane(board.net, link, one, Lane(lane.ring, lane.travel, plan, lane.rule)))


def do_rule(board, values):
    """Another loss rule of a lane."""
    one, other, rule = values
    link = joining(board.net, one, other)
    lane = link.lane_from(one)
    return with_net(with_lane(board.net, link, one, Lane(lane.ring, lane.travel, lane.plan, rule)))


def do_flow(board, values):
    """A flow."""
    return with_net(board.net | Flow(*values))


def do_less(board, values):
    """Less a flow, a link or a house."""
    return with_net(board.net - values[0])


def do_lay(board, values):
    """A way of a flow."""
    flow, way, houses = values
    return Board(board.net, board.tables.laid(flow, way, houses), board.run, None)


def do_place(board, values):
    """The place of a lane."""
    one, other, place = values
    link = joining(board.net, one, other)
    return with_run(board, board.run.with_place((link.name, one), place))


def do_line(board, values):
    """The phase and the losses of a line."""
    one, other, flow, phase, losses = values
    link = joining(board.net, one, other)
    return with_run(board, board.run.with_line((link.name, one, flow), phase, losses))


def do_letter(board, values):
    """A letter of a flow more."""
    flow, tick, letter = values
    pairs = [*board.run.contents_of(flow), (tick, letter)]
    return with_run(board, board.run.with_contents(flow, pairs))


def do_fall(board, values):
    """A fall."""
    name, tick = values
    return with_run(board, board.run.with_fall(Fall(tick, name)))


def do_stand(board, values):
    """No fall."""
    return with_run(board, board.run.with_fall(None))


def with_play(board, play):
    """The board with another play."""
    return Board(board.net, board.tables, board.run, play)


def do_play(board, values):
    """A new play."""
    return with_play(board, Player(board.run, board.tables))


def do_send(board, values):
    """A letter that is sent in the play."""
    # A board never changes, so its play is left as it is.
    play = board.play.twin()
    play.send(*values)
    return with_play(board, play)


def do_go(board, values):
    """Ticks of the play."""
    play = board.play.twin()
    play.go(values[0])
    return with_play(board, play)


ACTIONS = {
    "net": do_net, "link": do_link, "round": do_round, "plan": do_plan, "rule": do_rule, "flow": do_flow,
    "less": do_less, "lay": do_lay, "place": do_place, "line": do_line, "letter": do_letter, "fall": do_fall,
    "stand": do_stand, "play": do_play, "send": do_send, "go": do_go,
}


def is_action(word):
    """Whether a line that begins with this word does something."""
    return word in ACTIONS


def board_behind(board, word, values):
    """The board behind a line that does something."""
    action = ACTIONS[word]
    return action(board, values)
