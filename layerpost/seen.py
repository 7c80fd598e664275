"""Letters that came: which stacks let that they came so late, and which of these are tightest."""

from layerpost.checks import is_within
from layerpost.errors import BadPlay, BadStack
from layerpost.least_stacks import check_stack, frontier
from layerpost.stacks import FARTHEST, MOST_LANES, Stack


def is_entry(value):
    """Whether any value is a triple of a length, a number of lanes, and a delay."""
    if not isinstance(value, tuple) or len(value) != 3:
        return False
    length, lanes, delay = value
    return is_within(length, 0, FARTHEST) and is_within(lanes, 1, MOST_LANES) and is_within(delay, 0, FARTHEST)


class Seen:
    """Letters that came, each with its length, its lanes and its delay. It never changes."""

    def __init__(self, *entries):
        for at, entry in enumerate(entries):
            if not is_entry(entry):
                raise BadPlay(at)
        self.entries = entries

    def first_beyond(self, stack):
        """The index of the first letter that is later than a stack tells, None if there is none."""
        check_stack(stack)
        late = [at for at, (length, lanes, delay) in enumerate(self.entries) if delay > stack.delay_of(length, lanes)]
        return late[0] if late else None

    def __len__(self):
        return len(self.entries)

    def __iter__(self):
        return iter(self.entries)

    def __eq__(self, other):
        return isinstance(other, Seen) and self.entries == other.entries


def tightest(seen, *stacks):
    """The ascending tuple of the indexes of the stacks that let what was seen, and that none makes needless."""
    if not isinstance(seen, Seen):
        raise BadPlay("seen")
    for at, stack in enumerate(stacks):
        if not isinstance(stack, Stack):
            raise BadStack(at)
    places = [at for at, stack in enumerate(stacks) if seen.first_beyond(stack) is None]
    priced = [(0, stacks[at]) for at in places]
    return tuple([places[at] for at in frontier(*priced)])


def least_travel(stack, seen):
    """The least travel with which a stack lets what was seen."""
    check_stack(stack)
    if not isinstance(seen, Seen):
        raise BadPlay("seen")
    # Each lane takes the travel once, whatever the length: rounded up, what is late is parted over the lanes.
    return max([-(-delay // lanes) - (stack.delay_of(length) - stack.travel) for length, lanes, delay in seen.entries]
               + [0])
