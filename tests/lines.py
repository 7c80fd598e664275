"""Lines as the tests reckon them: spaces are sets of all their vectors, and each way is walked."""

from functools import lru_cache


def closed_under(vectors):
    """The set of all vectors that are made by these."""
    found = {0}
    for vector in vectors:
        if vector not in found:
            found |= {one ^ vector for one in found}
    return frozenset(found)


def is_heard(vector, mask):
    """Whether a difference leaves this sum as it is."""
    return bin(vector & mask).count("1") % 2 == 0


def slow_known(plan, begin, losses):
    """known_at by all differences of all rows: at most twelve slots."""
    many = len(losses)
    phases = [plan[begin + at] for at in range(many)]
    rows = [at for at in range(many) if not phases[at].mute]
    left = closed_under([1 << at for at in rows])
    known = [None] * many
    for at, slot in enumerate(losses):
        if slot == ".":
            masks = [sum([1 << at - age for age in ages if age <= at]) for ages in phases[at].sums]
            masks += [] if phases[at].mute else [1 << at]
            left = {one for one in left if all([is_heard(one, mask) for mask in masks])}
        for row in rows:
            if known[row] is None and not [one for one in left if one >> row & 1]:
                known[row] = at
    return tuple(known)


class SlowLine:
    """The standings and trails of a plan under a rule, spaces being sets of vectors."""

    def __init__(self, plan, rule):
        self.plan, self.places, self.many = plan, rule.places, len(plan)
        self.moved = lru_cache(None)(self.move)

    def move(self, phase, space, slot, width, picks):
        """The space behind a slot: opened, heard, picked."""
        told = self.plan[phase]
        up = {one << 1 for one in space}
        if not told.mute:
            up |= {one | 1 for one in up}
        if slot == ".":
            masks = [sum([1 << age for age in ages]) for ages in told.sums] + ([] if told.mute else [1])
            up = {one for one in up if all([is_heard(one, mask) for mask in masks])}
        return frozenset([sum([(one >> pick & 1) << at for at, pick in enumerate(picks)]) for one in up])

    def slots(self, place):
        """The slots that are let at a place, with the places behind."""
        return [(slot, behind) for slot, behind in zip(".x", self.places[place]) if behind is not None]

    def standings(self):
        """All standings that come up."""
        left = [(phase, 0, frozenset([0])) for phase in range(self.many)]
        found = set(left)
        while left:
            phase, place, space = left.pop()
            for slot, behind in self.slots(place):
                after = ((phase + 1) % self.many, behind, self.moved(phase, space, slot, 4, (0, 1, 2, 3)))
                if after not in found:
                    found.add(after)
                    left.append(after)
        return found

    def first_trails(self):
        """The pairs of a phase and the trail of its row, right behind its own slot, that is lost."""
        return {(phase, ((phase + 1) % self.many, self.places[place][1], self.moved(phase, space, "x", 4, (0, 1, 2, 3, 0))))
                for phase, place, space in self.standings()
                if self.places[place][1] is not None and not self.plan[phase].mute}

    def trails_behind(self, trail):
        """The trails behind one more slot in which the row is not known."""
        phase, place, space = trail
        after = [((phase + 1) % self.many, behind, self.moved(phase, space, slot, 5, (0, 1, 2, 3, 5)))
                 for slot, behind in self.slots(place)]
        return {row for row in after if [one for one in row[2] if one & 16]}

    def answer(self):
        """None if a row need never be known; otherwise the delays, the triples and the rows of five."""
        rows, layer, since = set(), self.first_trails(), 0
        trails = set()
        while layer:
            rows |= {(own, since, *trail) for own, trail in layer}
            trails |= {trail for _, trail in layer}
            # More slots than there are trails: one of them has come again.
            if since > len(self.all_trails()):
                return None
            layer = {(own, after) for own, trail in layer for after in self.trails_behind(trail)}
            since += 1
        delays = [None if self.plan[own].mute else max([row[1] + 1 for row in rows if row[0] == own], default=0)
                  for own in range(self.many)]
        return tuple(delays), self.standings(), rows

    def all_trails(self):
        """All trails that come up, whatever their phase."""
        left = [trail for _, trail in self.first_trails()]
        found = set(left)
        while left:
            for after in self.trails_behind(left.pop()):
                if after not in found:
                    found.add(after)
                    left.append(after)
        return found

    def has_ring(self):
        """Whether trails lead round without an end."""
        left = {trail: self.trails_behind(trail) for trail in self.all_trails()}
        while True:
            done = {trail for trail, after in left.items() if not [row for row in after if row in left]}
            if not done:
                return bool(left)
            left = {trail: after for trail, after in left.items() if trail not in done}
