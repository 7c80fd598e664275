"""Looks at papers of stacks that are compared."""

from layerpost.checks import is_integer, is_within
from layerpost.compared import Better, Worse, check_stacks
from layerpost.series import first_values
from layerpost.stacks import FARTHEST

MOST_LENGTHS = 20000


def are_numbers(one, other, begin, every):
    """Whether any values are numbers behind which the gains of two Growths come round together."""
    if not is_integer(begin) or not is_integer(every) or every <= 0 or begin + every > MOST_LENGTHS:
        return False
    if begin < max(len(one.told), len(other.told)):
        return False
    return every % len(one.gains) == 0 and every % len(other.gains) == 0


def is_never_later(one, other, begin, every):
    """Whether a Growth is not above another one up to begin and every, and rises no more in the last part."""
    many = begin + every + 1
    left, right = first_values(one, many), first_values(other, many)
    if any([here > there for here, there in zip(left, right)]):
        return False
    return left[-1] - left[begin] <= right[-1] - right[begin]


def shows_better(one, other, value):
    """Whether any value is a Better of two stacks that is right, or a Worse of any length at which one is later."""
    check_stacks(one, other)
    if isinstance(value, Better):
        return are_numbers(one.hop, other.hop, value.begin, value.every) and (
            is_never_later(one.hop, other.hop, value.begin, value.every))
    if not isinstance(value, Worse) or not is_within(value.length, 0, FARTHEST):
        return False
    return one.delay_of(value.length) > other.delay_of(value.length)
