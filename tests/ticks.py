"""Flows as the tests play them: tick by tick and slot by slot, each sum that comes resolved as far as it tells rows."""


class Heard:
    """Which rows are known by sums that came: a sum is an integer with a bit for each of its rows."""

    def __init__(self):
        self.known, self.sums = 0, []

    def takes(self, told):
        """A sum has come: rows that are known say nothing in it."""
        told &= ~self.known
        for other in self.sums:
            told = min(told, told ^ other)
        if not told:
            return
        self.sums = sorted([told, *[min(other, other ^ told) for other in self.sums]], reverse=True)
        single = [other for other in self.sums if bin(other).count("1") == 1]
        self.sums = [other for other in self.sums if other not in single]
        for other in single:
            self.known |= other

    def row(self, at):
        """Whether a row is known."""
        return bool(self.known >> at & 1)


class Copy:
    """A letter or an answer on its way: the houses ahead, and the cells that it needs on each lane."""

    def __init__(self, letter, mark, cells, houses, is_answer):
        self.letter, self.mark, self.cells, self.houses, self.is_answer = letter, mark, cells, houses, is_answer
        self.at, self.there, self.rows, self.is_gone, self.is_done = 0, None, [], False, False

    def lane(self):
        """The houses of the lane on which it is."""
        return self.houses[self.at:self.at + 2]


class SlowLine:
    """A line of a lane, slot by slot."""

    def __init__(self, lane, flow, place, phase, losses):
        self.lane, self.flow, self.place, self.phase, self.losses = lane, flow, place, phase, losses
        self.slots, self.waiting, self.heard, self.is_fallen, self.on = 0, [], Heard(), False, []

    def take(self, copy):
        """The cells of a copy wait, behind those that wait."""
        copy.rows = []
        self.waiting += [copy] * copy.cells
        self.on.append(copy)

    def step(self, tick):
        """The slot of a tick; copies of which all cells are known are there later."""
        slots = self.lane.ring.slots
        if slots[(self.place + tick) % len(slots)] != self.flow:
            return
        at = self.slots
        self.slots += 1
        phases = self.lane.plan.phases
        phase = phases[(self.phase + at) % len(phases)]
        if not phase.mute and self.waiting:
            self.waiting.pop(0).rows.append(at)
        is_lost = self.is_fallen or self.losses[at:at + 1] == "x"
        if not is_lost:
            # Rows of nothing are not told to be nothing: they are rows as others.
            for ages in [*phase.sums, *([] if phase.mute else [(0,)])]:
                self.heard.takes(sum([1 << (at - age) for age in ages if age <= at]))
        for copy in self.on:
            if copy.there is None and len(copy.rows) == copy.cells:
                if all([self.heard.row(row) for row in copy.rows]):
                    copy.there = tick + 1 + self.lane.travel


class SlowFlow:
    """One flow of a run: its letters with the ticks of what happened."""

    def __init__(self, run, ways, flow, ticks):
        self.run, self.ways, self.flow = run, ways, [one for one in run.net.flows if one.name == flow][0]
        self.lines, self.copies, self.letters, self.way, self.under_way = {}, [], [], "first", None
        for part in run.net.links:
            for house, lane in ((part.one, part.there), (part.other, part.back)):
                if flow in lane.ring.slots:
                    key = (part.name, house)
                    self.lines[house, part.other if house == part.one else part.one] = SlowLine(
                        lane, flow, run.place_of(key), run.phase_of((*key, flow)), run.losses_of((*key, flow)))
        for tick in range(ticks):
            self.play(tick)
            if len(self.letters) == len(run.contents_of(flow)) and self.under_way is None:
                if all([copy.is_done or copy.is_gone for copy in self.copies]):
                    break

    def play(self, tick):
        fall = self.run.fall
        if fall is not None and fall.tick == tick:
            self.fall(fall.name)
        for copy in [copy for copy in self.copies if copy.there == tick and not copy.is_gone]:
            self.come_in(copy, tick)
        if self.under_way is not None and self.way == "first":
            letter = self.letters[self.under_way]
            if tick - letter["taken"] == self.flow.timeout:
                self.way = letter["way"] = "spare"
                self.send(self.under_way)
        contents = self.run.contents_of(self.flow.name)
        many = len(self.letters)
        if self.under_way is None and many < len(contents) and contents[many][0] <= tick:
            self.letters.append({"mark": many % 2, "way": self.way, "taken": tick, "there": None, "ended": None, "elder": None})
            self.under_way = many
            self.send(many)
        for line in self.lines.values():
            line.step(tick)

    def fall(self, name):
        """The lines of the link, or of all links at the house, bring nothing; what is on them is gone."""
        for part in self.run.net.links:
            if name in (part.name, part.one, part.other):
                for key in ((part.one, part.other), (part.other, part.one)):
                    if key in self.lines:
                        self.lines[key].is_fallen = True
                    for copy in self.copies:
                        copy.is_gone = copy.is_gone or tuple(copy.lane()) == key

    def cells(self, letter):
        rule, size = self.run.net.rule, self.run.net.size
        return -(-len(rule.frame(letter)) // size)

    def send(self, letter):
        mark = letter % 2
        content = self.run.contents_of(self.flow.name)[letter][1]
        copy = Copy(letter, mark, self.cells(str(mark) + content), self.ways[self.way], False)
        self.copies.append(copy)
        self.go_on(copy)

    def go_on(self, copy):
        """It is ready at the house where it is."""
        line = self.lines.get(tuple(copy.lane()))
        copy.there = None
        if line is not None and line.is_fallen:
            copy.is_gone = True
        elif line is not None:
            line.take(copy)

    def come_in(self, copy, tick):
        self.lines[tuple(copy.lane())].on.remove(copy)
        copy.at += 1
        if len(copy.lane()) == 2:
            self.go_on(copy)
            return
        copy.there, copy.is_done = None, True
        letter = self.letters[copy.letter]
        if not copy.is_answer:
            letter["there"] = tick if letter["there"] is None else letter["there"]
            answer = Copy(copy.letter, copy.mark, self.cells(str(copy.mark)), copy.houses[::-1], True)
            self.copies.append(answer)
            self.go_on(answer)
            return
        if copy.houses == self.ways["first"][::-1]:
            letter["elder"] = tick
        if self.under_way is not None and copy.mark == self.under_way % 2:
            self.letters[self.under_way]["ended"] = tick
            self.under_way = None
