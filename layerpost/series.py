"""How told values and gains go on, for the class Growth.

Where a parameter is called one or other, it is a Growth; this file reads its
told values, gains and rises, and makes no Growth itself. Operators call these
functions, so none of them changes what it did not make.
"""

from math import gcd, lcm

from layerpost.errors import TooMany

MOST_PARTS = 2000


def least_period(gains):
    """The least number of gains that are all of them when they are repeated."""
    borders = [0]
    for at in range(1, len(gains)):
        width = borders[at - 1]
        while width > 0 and gains[at] != gains[width]:
            width = borders[width - 1]
        if gains[at] == gains[width]:
            width += 1
        borders.append(width)
    period = len(gains) - borders[-1]
    if len(gains) % period == 0:
        return period
    return len(gains)


def spare_told(told, gains):
    """How many told values at the end are those that the gains give anyway."""
    spare = 0
    last = len(told) - 1
    while spare < last and told[last - spare] - told[last - spare - 1] == gains[-1 - spare % len(gains)]:
        spare += 1
    return spare


def normal_form(told, gains):
    """The pair of the told values and gains of the normal form, tuples."""
    few = tuple(gains[:least_period(gains)])
    spare = spare_told(told, few)
    # Each told value that is left out makes the last gain the first one.
    cut = len(few) - spare % len(few)
    return tuple(told[:len(told) - spare]), few[cut:] + few[:cut]


def rises_of(gains):
    """The sums of the first gains, from none of them to all."""
    rises = [0]
    for gain in gains:
        rises.append(rises[-1] + gain)
    return tuple(rises)


def value_at(one, n):
    """The value of a growth at any number from 0 on."""
    if n < len(one.told):
        return one.told[n]
    rounds, rest = divmod(n - len(one.told) + 1, len(one.gains))
    return one.told[-1] + rounds * one.rises[-1] + one.rises[rest]


def first_values(one, many):
    """The list of the first values of a growth, so many."""
    values = list(one.told[:many])
    at = 0
    while len(values) < many:
        values.append(values[-1] + one.gains[at])
        at += 1
        if at == len(one.gains):
            at = 0
    return values


def parted(values, many):
    """The told values and the gains: so many values are told, the others make gains."""
    gains = [values[at] - values[at - 1] for at in range(many, len(values))]
    return values[:many], gains


def shifted_parts(one, many):
    """The told values and the gains of a growth that begins so many numbers later."""
    values = [value_at(one, many)]
    if many < len(one.told):
        values = list(one.told[many:])
    beyond = max(0, many - len(one.told) + 1) % len(one.gains)
    return values, one.gains[beyond:] + one.gains[:beyond]


def common_length(one, other):
    """The number of gains that both have together; an error if these are too many."""
    length = lcm(len(one.gains), len(other.gains))
    if length > MOST_PARTS:
        raise TooMany("gains", MOST_PARTS)
    return length


def begin_of_both(one, other):
    """From this number on the gains of both growths tell their values."""
    return max(len(one.told), len(other.told))


def summed_parts(one, other):
    """The told values and the gains of the sum of two growths."""
    begin = begin_of_both(one, other)
    many = begin + common_length(one, other)
    values = [left + right for left, right in zip(first_values(one, many), first_values(other, many))]
    return parted(values, begin)


def gaps_of(one, other):
    """By how much one is above other: at the numbers of all told values and one round of gains."""
    many = begin_of_both(one, other) + common_length(one, other)
    return [left - right for left, right in zip(first_values(one, many), first_values(other, many))]


def lead_of(one, other):
    """By how much more one rises than other in one round of the gains of both."""
    length = common_length(one, other)
    return one.rises[-1] * (length // len(one.gains)) - other.rises[-1] * (length // len(other.gains))


def first_number_above(one, other):
    """The least number at which one is above other, None if there is none."""
    gaps = gaps_of(one, other)
    for at, gap in enumerate(gaps):
        if gap > 0:
            return at
    lead = lead_of(one, other)
    if lead <= 0:
        return None
    length = common_length(one, other)
    return min([at + (-gaps[at] // lead + 1) * length for at in range(len(gaps) - length, len(gaps))])


def last_number_above(one, other):
    """The last number at which one is above other, which rises more; -1 if there is none."""
    gaps = gaps_of(one, other)
    loss = -lead_of(one, other)
    length = common_length(one, other)
    last = -1
    for at, gap in enumerate(gaps):
        if gap > 0 and at < len(gaps) - length:
            last = at
        elif gap > 0:
            last = max(last, at + (gap - 1) // loss * length)
    return last


def first_number_over(one, value):
    """The least number at which a growth is above a value, None if there is none."""
    for at, told in enumerate(one.told):
        if told > value:
            return at
    if one.rises[-1] == 0:
        return None
    rounds, rest = divmod(value - one.told[-1], one.rises[-1])
    steps = 1
    while one.rises[steps] <= rest:
        steps += 1
    return len(one.told) - 1 + rounds * len(one.gains) + steps


def outer_parts(one, other, is_greatest):
    """The told values and the gains of the greatest, or the least, values of two growths."""
    lead = lead_of(one, other)
    begin = begin_of_both(one, other)
    many = begin + common_length(one, other)
    if lead != 0:
        fast, slow = (one, other) if lead > 0 else (other, one)
        last = fast if is_greatest else slow
        # Behind the last crossing the values are those of one growth alone. The
        # step at the crossing is no gain of it, so the value behind is told.
        crossing = last_number_above(slow, fast)
        if crossing + 2 > MOST_PARTS:
            raise TooMany("told", MOST_PARTS)
        begin = max(len(last.told), crossing + 2)
        many = begin + len(last.gains)
    lefts, rights = first_values(one, many), first_values(other, many)
    if is_greatest:
        return parted([max(left, right) for left, right in zip(lefts, rights)], begin)
    return parted([min(left, right) for left, right in zip(lefts, rights)], begin)


def composed_parts(one, other):
    """The told values and the gains of one at the values of other."""
    if other.rises[-1] == 0:
        return [value_at(one, value) for value in other.told], (0,)
    turns = len(one.gains) // gcd(len(one.gains), other.rises[-1])
    length = len(other.gains) * turns
    if length > MOST_PARTS:
        raise TooMany("gains", MOST_PARTS)
    begin = len(other.told)
    while begin <= MOST_PARTS and value_at(other, begin - 1) < len(one.told) - 1:
        begin += 1
    if begin > MOST_PARTS:
        raise TooMany("told", MOST_PARTS)
    return parted([value_at(one, value) for value in first_values(other, begin + length)], begin)
