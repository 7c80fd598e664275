"""What several tests use: wrong values of all kinds, errors as tuples, plain reckoning."""

import random
import unittest

from layerpost.errors import PostError
from layerpost.frames import FrameRule, Right
from layerpost.growths import Growth


def any_values():
    """New values of all kinds, none of which is a letter, a name, or an integer from 0 to 10 ** 40."""
    return [
        None, True, False, -1, -(10 ** 40), 10 ** 40 + 1, "-1", "x y", "A", "\n", "~" * 4000, (), [], {},
        (1,), [0], [[[]]], {"a": [1, (2, None)]}, {1: 2}, Growth((1, 2)), FrameRule("01", ("0", "0")), Right(()),
        [Growth((0,))], ("0", "1", "0"), (None,), [True],
    ]


def error_of(work, *told, **named):
    """The class and the fields of the error that a call raises, as a tuple; None if there is none."""
    try:
        work(*told, **named)
    except PostError as error:
        return (type(error).__name__, *vars(error).values())
    return None


def dealer(seed):
    """A row of chances, the same one for each run of the tests."""
    return random.Random(seed)


def some_signs(chance, least, most):
    """A string of 0 and 1 with so many signs."""
    return "".join([chance.choice("01") for _ in range(chance.randint(least, most))])


class Case(unittest.TestCase):
    """A test case that tells whether the very error is raised that is asked for."""

    def refused(self, wanted, work, *told, **named):
        """A call raises this error, with fields of the same kinds and values."""
        found = error_of(work, *told, **named)
        self.assertIsNotNone(found, f"no error for {told!r} {named!r}")
        self.assertEqual(found, wanted)
        self.assertEqual([type(part) for part in found], [type(part) for part in wanted])
