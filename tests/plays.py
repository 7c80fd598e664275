"""Nets as the tests play them: tick by tick, part by part, each line slot by slot."""

from tests.nets import joined
from tests.ticks import SlowLine


class Thing:
    """A letter or an answer under way: at a house, with the houses by which it came or goes back, and the next house."""

    def __init__(self, letter, way, houses, kind, towards, turn):
        self.letter, self.way, self.houses, self.kind, self.towards, self.turn = letter, way, houses, kind, towards, turn
        self.there, self.rows, self.cells = None, [], 0

    @property
    def house(self):
        return self.houses[-1]


class SlowPlay:
    """A play of a run; tables are exchanged as the test tells, without a look whether that is let."""

    def __init__(self, run, tables):
        self.run, self.net, self.clock, self.turns, self.fallen = run, run.net, 0, 0, None
        self.sheets = {(house, 0): tables for house in self.net.houses}
        self.hues = {flow.name: 0 for flow in self.net.flows}
        self.ways = {flow.name: "first" for flow in self.net.flows}
        self.marks = {flow.name: 0 for flow in self.net.flows}
        self.wanted = {flow.name: 0 for flow in self.net.flows}
        self.sending = {flow.name: None for flow in self.net.flows}
        self.queue = {flow.name: list(run.contents_of(flow.name)) for flow in self.net.flows}
        self.out = {flow.name: [] for flow in self.net.flows}
        self.things, self.events, self.lines = [], [], {}
        for link in self.net.links:
            for house, lane in ((link.one, link.there), (link.other, link.back)):
                for flow in self.net.flows:
                    if flow.name in lane.ring.slots:
                        line = (link.name, house, flow.name)
                        self.lines[line] = SlowLine(lane, flow.name, run.place_of(line[:2]), run.phase_of(line), run.losses_of(line))

    def tell(self, word, flow, name, mark):
        self.events.append((self.clock, word, flow, name, mark))

    def tick(self):
        """One tick; the list of what happened."""
        many = len(self.events)
        if self.run.fall is not None and self.run.fall.tick == self.clock:
            self.fall(self.run.fall.name)
        due = [thing for thing in self.things if thing.there == self.clock]
        for link in self.net.links:
            for flow in self.net.flows:
                for kind in (0, 1):
                    for thing in sorted(due, key=lambda one: one.turn):
                        told = joined(self.net, thing.house, thing.towards)
                        if (thing.kind, thing.letter["flow"]) == (kind, flow.name) and told.name == link.name:
                            self.come_in(thing, flow)
        for flow in self.net.flows:
            letter = self.sending[flow.name]
            if letter is not None and self.ways[flow.name] == "first" and self.clock - letter["taken"] == flow.timeout:
                self.ways[flow.name] = "spare"
                self.tell("changed", flow.name, flow.begin, letter["mark"])
                self.ready(letter, "spare", [flow.begin], 0)
        for flow in self.net.flows:
            if self.sending[flow.name] is None and self.queue[flow.name] and self.queue[flow.name][0][0] <= self.clock:
                letter = {"flow": flow.name, "mark": self.marks[flow.name], "content": self.queue[flow.name].pop(0)[1],
                          "taken": self.clock, "hue": self.hues[flow.name]}
                self.sending[flow.name] = letter
                self.tell("taken", flow.name, flow.begin, letter["mark"])
                self.ready(letter, self.ways[flow.name], [flow.begin], 0)
        for line in self.lines.values():
            line.step(self.clock)
        self.clock += 1
        return self.events[many:]

    def has_fallen(self, one, other):
        """Whether the link between two houses, or one of these, has fallen; for one house alone whether it has."""
        if self.fallen is None:
            return False
        names = [one] if other is None else [one, other, joined(self.net, one, other).name]
        return self.fallen in names

    def fall(self, name):
        self.fallen = name
        self.tell("fell", None, name, None)
        for flow in self.net.flows:
            for kind in (0, 1):
                for thing in list(self.things):
                    if (thing.letter["flow"], thing.kind) == (flow.name, kind) and self.has_fallen(thing.house, thing.towards):
                        self.things.remove(thing)
                        self.tell("gone", flow.name, name, thing.letter["mark"])

    def ready(self, letter, way, houses, kind):
        """Something is ready at the last one of these houses."""
        if kind == 1:
            towards = houses[-2]
        else:
            sheet = self.sheets.get((houses[-1], letter["hue"]))
            towards = None if sheet is None else dict(sheet).get((houses[-1], letter["flow"], way))
        if self.has_fallen(houses[-1], towards):
            self.tell("gone", letter["flow"], self.fallen, letter["mark"])
            return
        thing = Thing(letter, way, houses, kind, towards, self.turns)
        self.turns += 1
        self.things.append(thing)
        if towards is not None:
            line = self.lines.get((joined(self.net, houses[-1], towards).name, houses[-1], letter["flow"]))
            text = str(letter["mark"]) + (letter["content"] if kind == 0 else "")
            thing.cells = -(-len(self.net.rule.frame(text)) // self.net.size)
            if line is not None:
                line.take(thing)

    def come_in(self, thing, flow):
        self.things.remove(thing)
        self.lines[joined(self.net, thing.house, thing.towards).name, thing.house, flow.name].on.remove(thing)
        letter, house = thing.letter, thing.towards
        if thing.kind == 1 and len(thing.houses) == 2:
            is_own = self.sending[flow.name] is not None and self.sending[flow.name]["mark"] == letter["mark"]
            self.tell("ended" if is_own else "stale", flow.name, house, letter["mark"])
            if is_own:
                self.sending[flow.name] = None
                self.marks[flow.name] = 1 - self.marks[flow.name]
        elif thing.kind == 1:
            self.tell("back", flow.name, house, letter["mark"])
            self.ready(letter, thing.way, thing.houses[:-1], 1)
        elif house == flow.end:
            is_new = letter["mark"] == self.wanted[flow.name]
            if is_new:
                self.wanted[flow.name] = 1 - letter["mark"]
                self.out[flow.name].append((letter["content"], self.clock - letter["taken"]))
            self.tell("handed" if is_new else "known", flow.name, house, letter["mark"])
            self.ready(letter, thing.way, [*thing.houses, house], 1)
        else:
            self.tell("came", flow.name, house, letter["mark"])
            self.ready(letter, thing.way, [*thing.houses, house], 0)

    def places(self, flow):
        return tuple(sorted({(thing.kind, thing.letter["mark"], thing.house) for thing in self.things if thing.letter["flow"] == flow}))

    def is_idle(self):
        return not self.things and not any(self.queue.values()) and not [one for one in self.sending.values() if one is not None]

    def hold(self, hue):
        """Whether a letter of a hue, or a copy of one, is under way."""
        return bool([one for one in self.sending.values() if one is not None and one["hue"] == hue] + [
            thing for thing in self.things if thing.kind == 0 and thing.letter["hue"] == hue])

    def state(self):
        """All that a player tells of its flows."""
        return [(flow.name, tuple([content for content, _ in self.out[flow.name]]), tuple([ticks for _, ticks in self.out[flow.name]]),
                 tuple([content for _, content in self.queue[flow.name]]), self.ways[flow.name], self.hues[flow.name],
                 self.places(flow.name)) for flow in self.net.flows]


def told_state(player, net):
    """All that a player tells of its flows."""
    return [(flow.name, player.handed(flow.name), player.ticks_of(flow.name), player.waiting(flow.name), player.way_of(flow.name),
             player.hue_of(flow.name), player.places_of(flow.name)) for flow in net.flows]


def plain(event):
    """An Event as a tuple."""
    return event.tick, event.word, event.flow, event.name, event.mark
