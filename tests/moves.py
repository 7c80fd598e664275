"""Pairs as the tests reckon them: letters have numbers that are told in full, and each event is tried."""

from itertools import product

from layerpost.pairs import Pair

# So many letters have been handed out, whatever the stand tells: no number is below 0, each mark fits.
MANY = 60 * 6
PARTS = ("letters", "answers")
NAMES = ("marks", "timeouts", "change", "order", "losses", "falls", "room")


def all_pairs(marks=range(1, 7)):
    """All pairs with these numbers of marks."""
    for parts in product(marks, ("late", "early", "never"), ("stay", "swing"), (True, False), (False, True), (0, 1), (1, 2)):
        yield Pair(*parts)


class Table:
    """A stand, with all numbers in full."""

    def __init__(self, pair, stand):
        self.pair, self.handed = pair, MANY
        self.way, self.waits, ahead, roads, self.falls = stand
        self.letter = ahead + MANY
        self.roads = {(way, part): None if road is None else [number + MANY for number in road]
                      for (way, part), road in zip(product(("first", "spare"), PARTS), roads)}

    def mark(self, number):
        return number % self.pair.marks

    def told(self, number):
        """A number as it stands in the tuple."""
        rest = number - self.handed
        while rest <= -self.pair.marks:
            rest += self.pair.marks
        return rest

    def stand(self):
        """The tuple."""
        roads = tuple([None if road is None else tuple([self.told(number) for number in road]) for road in self.roads.values()])
        return self.way, self.waits, self.told(self.letter), roads, self.falls

    def has_room(self, way, part):
        road = self.roads[way, part]
        return road is None or len(road) < self.pair.room

    def put(self, way, part, number):
        if self.roads[way, part] is not None:
            self.roads[way, part].append(number)

    def has(self, way, part, at):
        """Whether something at this index can be reached."""
        road = self.roads[way, part]
        return road is not None and at < len(road) and (at == 0 or not self.pair.order)

    def other(self):
        return "spare" if self.way == "first" else "first"

    def can(self, event):
        """Whether an event can come."""
        word, rest = event[0], event[1:]
        if word == "send":
            return not self.waits and self.has_room(self.way, "letters")
        if word == "arrive":
            return self.has(rest[0], "letters", rest[1]) and self.has_room(rest[0], "answers")
        if word == "answer":
            return self.has(rest[0], "answers", rest[1])
        if word == "fall":
            return self.falls > 0
        if word == "lose":
            return self.pair.losses and self.has(*rest)
        if not self.waits or self.pair.timeouts == "never" or (self.pair.change, self.way) == ("stay", "spare"):
            return False
        under_way = [number for part in PARTS for number in self.roads[self.way, part] or []]
        is_there = self.told(self.letter) in [self.told(number) for number in under_way]
        return not (self.pair.timeouts == "late" and is_there) and self.has_room(self.other(), "letters")

    def do(self, event):
        """What an event does; the word if it breaks the pair."""
        word, rest = event[0], event[1:]
        if word == "send":
            self.waits = True
            self.put(self.way, "letters", self.letter)
        elif word == "timeout":
            self.way = self.other()
            self.put(self.way, "letters", self.letter)
        elif word == "fall":
            self.falls -= 1
            for part in PARTS if rest[1] == "both" else [rest[1]]:
                self.roads[rest[0], part] = None
        elif word == "lose":
            self.roads[rest[:2]].pop(rest[2])
        elif word == "arrive":
            number = self.roads[rest[0], "letters"].pop(rest[1])
            self.put(rest[0], "answers", number)
            if self.mark(number) == self.mark(self.handed + 1):
                if number != self.handed + 1:
                    return "twice"
                self.handed += 1
        else:
            number = self.roads[rest[0], "answers"].pop(rest[1])
            if self.waits and self.mark(number) == self.mark(self.letter):
                if self.letter > self.handed:
                    return "skipped"
                self.waits, self.letter = False, self.letter + 1
        return None


def all_events(room):
    """All events that there are, in their order."""
    ways = ("first", "spare")
    return [("send",), *product(("arrive",), ways, range(room)), *product(("answer",), ways, range(room)), ("timeout",),
            *product(("fall",), ways, (*PARTS, "both")), *product(("lose",), ways, PARTS, range(room))]


def slow_events(pair, stand):
    """The events that can come, with their outcomes."""
    rows = []
    for event in all_events(pair.room):
        table = Table(pair, stand)
        if table.can(event):
            word = table.do(event)
            rows.append((event, table.stand() if word is None else word))
    return rows


def is_stuck(rows):
    """Whether none but falls and losses can come."""
    return not [event for event, _ in rows if event[0] not in ("fall", "lose")]


def hands_out(pair, stand, event):
    """Whether an event hands out a letter."""
    table = Table(pair, stand)
    table.do(event)
    return table.handed > MANY


class Walk:
    """All stands of a pair, level by level, each with its first run, as the indexes of its events."""

    def __init__(self, pair, most=4000):
        first = ("first", False, 1, ((), (), (), ()), pair.falls)
        self.pair, self.runs, self.rows, self.broken, self.too_many = pair, {first: ()}, {}, None, False
        level = [first]
        while level and self.broken is None and not self.too_many:
            level = self.next_level(level, most)

    def order(self):
        """All stands, by fewest events, then by the order of events."""
        return tuple(sorted(self.runs, key=lambda stand: (len(self.runs[stand]), self.runs[stand])))

    def next_level(self, level, most):
        """The stands one event behind; the first break, or one stand too many, as they come in the order of runs."""
        events = all_events(self.pair.room)
        steps = []
        for stand in level:
            self.rows[stand] = slow_events(self.pair, stand)
            steps += [((*self.runs[stand], events.index(event)), outcome) for event, outcome in self.rows[stand]]
        found = []
        for run, outcome in sorted(steps, key=lambda step: step[0]):
            told = tuple([events[at] for at in run])
            if isinstance(outcome, str):
                self.broken = (outcome, told)
                break
            if outcome not in self.runs:
                if len(self.runs) == most:
                    self.too_many = True
                    break
                self.runs[outcome] = run
                found.append(outcome)
                if is_stuck(slow_events(self.pair, outcome)):
                    self.broken = ("stuck", told)
                    break
        return found
