"""Plans: what the own slots of a line carry, phase by phase."""

from layerpost.checks import is_integer, is_within
from layerpost.errors import BadPlan, BadText, NoPhase
from layerpost.words import words_of

MOST_AGE = 4
MOST_SUMS = 4
MOST_PHASES = 4


def is_ascending(values):
    """Whether each of these is above the one ahead of it."""
    return all([values[at - 1] < values[at] for at in range(1, len(values))])


def is_sum(value):
    """Whether any value is a tuple of 1 to 4 ages from 1 to 4, ascending."""
    if not isinstance(value, tuple) or not 1 <= len(value) <= MOST_AGE:
        return False
    return all([is_within(age, 1, MOST_AGE) for age in value]) and is_ascending(value)


def sum_of(word):
    """The sum that stands in a word, None if there is none."""
    ages = []
    for part in word.split("+"):
        if part not in ("1", "2", "3", "4"):
            return None
        ages.append(int(part))
    return tuple(ages) if is_ascending(ages) else None


def phase_words(phases):
    """The words of the text of a plan."""
    words = []
    for at, phase in enumerate(phases):
        if at > 0:
            words.append("/")
        words.append("mute" if phase.mute else "row")
        words.extend(["+".join([str(age) for age in ages]) for ages in phase.sums])
    return words


def can_follow(sums, word):
    """Whether a word can stand as a sum behind these sums of a phase."""
    told = sum_of(word)
    if told is None or len(sums) == MOST_SUMS:
        return False
    return not sums or sums[-1] < told


def rows_of(words):
    """The list of the words `row` and `mute`, and the list of the lists of sums behind them."""
    kinds = []
    rows = []
    for at, word in enumerate(words):
        if at == 0 or words[at - 1] == "/":
            if word not in ("row", "mute"):
                raise BadText(0, at)
            kinds.append(word)
            rows.append([])
        elif word == "/":
            if len(rows) == MOST_PHASES:
                raise BadText(0, at)
        elif can_follow(rows[-1], word):
            rows[-1].append(sum_of(word))
        else:
            raise BadText(0, at)
    if words[-1] == "/":
        raise BadText(0, len(words))
    return kinds, rows


class Phase:
    """What an own slot carries: its own row, unless it is mute, and sums. It never changes."""

    def __init__(self, *sums, mute=False):
        for at, ages in enumerate(sums):
            if not is_sum(ages) or ages in sums[:at]:
                raise BadPlan(at)
        if len(sums) > MOST_SUMS:
            raise BadPlan("sums")
        if not isinstance(mute, bool):
            raise BadPlan("mute")
        self.sums = tuple(sorted(sums))
        self.mute = mute

    def __eq__(self, other):
        return isinstance(other, Phase) and self.sums == other.sums and self.mute == other.mute


def tells_mute(phases, at):
    """Whether a sum of this phase tells the row of a slot that is mute."""
    return any([phases[(at - age) % len(phases)].mute for ages in phases[at].sums for age in ages])


class Plan:
    """1 to 4 phases that come again for ever. It never changes."""

    def __init__(self, *phases):
        for at, phase in enumerate(phases):
            if not isinstance(phase, Phase):
                raise BadPlan(at)
        if not 1 <= len(phases) <= MOST_PHASES:
            raise BadPlan("phases")
        if all([phase.mute for phase in phases]):
            raise BadPlan("mute")
        for at in range(len(phases)):
            if tells_mute(phases, at):
                raise BadPlan(at)
        self.phases = phases

    @classmethod
    def plain(cls):
        """The plan of one phase without sums."""
        return cls(Phase())

    @classmethod
    def copies(cls, *ages):
        """The plan of one phase with a sum of each age alone."""
        sums = [(age,) for age in ages]
        return cls(Phase(*sums))

    @classmethod
    def groups(cls, size):
        """The plan of so many phases without sums, and a mute one with the sum of their rows."""
        if not is_within(size, 1, 3):
            raise BadPlan("size")
        phases = [Phase() for _ in range(size)]
        phases.append(Phase(tuple(range(1, size + 1)), mute=True))
        return cls(*phases)

    def __len__(self):
        return len(self.phases)

    def __iter__(self):
        return iter(self.phases)

    def __getitem__(self, at):
        if not is_integer(at) or at < 0:
            raise NoPhase(at)
        return self.phases[at % len(self.phases)]

    def __eq__(self, other):
        return isinstance(other, Plan) and self.phases == other.phases

    def __str__(self):
        return " ".join(phase_words(self.phases))

    @classmethod
    def read(cls, text):
        """The plan with this text."""
        kinds, rows = rows_of(words_of(text))
        phases = []
        for kind, sums in zip(kinds, rows):
            is_mute = kind == "mute"
            phases.append(Phase(*sums, mute=is_mute))
        return cls(*phases)
