"""The base of the papers that answer yes or no."""


class Verdict:
    """A paper that answers yes or no: `bool` of it is the answer."""
