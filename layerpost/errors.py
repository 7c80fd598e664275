"""The errors of the package, one class for each kind of failure.

Python keeps the arguments of an error as its message, so no class here sets one.
"""


class PostError(ValueError):
    """The base of all errors of this package."""


class BadGrowth(PostError):
    """A growth cannot be: this part is wrong."""

    def __init__(self, part):
        self.part = part


class BadLetter(PostError):
    """This value is no letter."""

    def __init__(self, value):
        self.value = value


class BadFrame(PostError):
    """A frame cannot be: this part is wrong."""

    def __init__(self, part):
        self.part = part


class BadCell(PostError):
    """Cells cannot be: this part is wrong."""

    def __init__(self, part):
        self.part = part


class BadPlan(PostError):
    """A plan or a phase cannot be: this part is wrong."""

    def __init__(self, part):
        self.part = part


class BadRule(PostError):
    """A frame rule or a loss rule cannot be: this part is wrong."""

    def __init__(self, part):
        self.part = part


class BadLosses(PostError):
    """This value is no losses."""

    def __init__(self, value):
        self.value = value


class BadRound(PostError):
    """A round cannot be: this part is wrong."""

    def __init__(self, part):
        self.part = part


class BadNet(PostError):
    """A net, or a thing of it, cannot be: this part is wrong."""

    def __init__(self, part):
        self.part = part


class BadTable(PostError):
    """Tables cannot be: this part is wrong."""

    def __init__(self, part):
        self.part = part


class BadPair(PostError):
    """A pair, a sender or a receiver cannot be: this part is wrong."""

    def __init__(self, part):
        self.part = part


class BadStack(PostError):
    """A stack cannot be: this part is wrong."""

    def __init__(self, part):
        self.part = part


class BadRun(PostError):
    """A run cannot be: this part is wrong."""

    def __init__(self, part):
        self.part = part


class BadPlay(PostError):
    """What was seen cannot be: this part is wrong."""

    def __init__(self, part):
        self.part = part


class BadNumber(PostError):
    """This value is no number that is asked for."""

    def __init__(self, value):
        self.value = value


class BadText(PostError):
    """A text cannot be read: this word of this line cannot stand."""

    def __init__(self, line, word):
        self.line = line
        self.word = word


class BadCommand(PostError):
    """A line for a desk cannot be read: this word cannot stand."""

    def __init__(self, word):
        self.word = word


class BadName(PostError):
    """This value is no name."""

    def __init__(self, value):
        self.value = value


class NoName(PostError):
    """Nothing has this name."""

    def __init__(self, name):
        self.name = name


class NoFlow(PostError):
    """No flow has this name."""

    def __init__(self, name):
        self.name = name


class NoHouse(PostError):
    """No house has this name."""

    def __init__(self, name):
        self.name = name


class NoLink(PostError):
    """No link has this name."""

    def __init__(self, name):
        self.name = name


class NoLane(PostError):
    """No lane is told so."""

    def __init__(self, key):
        self.key = key


class NoLine(PostError):
    """No line is told so."""

    def __init__(self, key):
        self.key = key


class NoPhase(PostError):
    """No phase has this index."""

    def __init__(self, at):
        self.at = at


class Clashing(PostError):
    """Two things that are told do not go together."""

    def __init__(self, part):
        self.part = part


class Nothing(PostError):
    """There is nothing that could be told or taken back."""


class TooMany(PostError):
    """There are more of these than may be."""

    def __init__(self, what, most):
        self.what = what
        self.most = most
