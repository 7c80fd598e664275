"""Pages: nets, tables, runs and stacks as texts of lines."""

from layerpost.errors import BadNet, BadRun, BadStack, BadTable
from layerpost.nets import Net
from layerpost.runs import Run
from layerpost.stacks import Stack
from layerpost.tables import Tables


def sign_word(signs):
    """The word of a letter or of losses."""
    return signs if signs != "" else "-"


def lane_lines(word, lane):
    """The lines of a lane."""
    return [f"{word} {lane.travel} {lane.ring}", f"plan {lane.plan}", f"rule {lane.rule}"]


def net_text(net):
    """The page of a net."""
    if not isinstance(net, Net):
        raise BadNet("net")
    lines = [f"net {net.size} {net.rule}", " ".join(["houses", *net.houses])]
    for link in net.links:
        lines.append(f"link {link.name} {link.one} {link.other}")
        lines.extend([*lane_lines("there", link.there), *lane_lines("back", link.back)])
    for flow in net.flows:
        lines.append(f"flow {flow.name} {flow.begin} {flow.end} {flow.most} {flow.timeout}")
    return "\n".join(lines)


def tables_text(tables):
    """The page of tables."""
    if not isinstance(tables, Tables):
        raise BadTable("tables")
    lines = [" ".join(["next", *key, house]) for key, house in tables.pairs]
    return "\n".join(lines) if lines else "-"


def run_text(run):
    """The page of a run."""
    if not isinstance(run, Run):
        raise BadRun("run")
    lines = ["run"]
    for lane in run.told_lanes():
        lines.append(" ".join(["place", *lane, str(run.place_of(lane))]))
    for line in run.told_lines():
        lines.append(" ".join(["line", *line, str(run.phase_of(line)), sign_word(run.losses_of(line))]))
    for flow in sorted([flow.name for flow in run.net.flows]):
        lines.extend([f"letter {flow} {tick} {sign_word(letter)}" for tick, letter in run.contents_of(flow)])
    if run.fall is not None:
        lines.append(f"fall {run.fall}")
    return "\n".join(lines)


def stack_text(stack):
    """The page of a stack."""
    if not isinstance(stack, Stack):
        raise BadStack("stack")
    lines = [f"stack {stack.size} {stack.frames}", f"plan {stack.plan}", f"rule {stack.rule}",
             f"lane {stack.travel} {stack.flow} {stack.ring}"]
    return "\n".join(lines)
