"""Looks at papers of pairs: stands, runs and heights are looked at one by one."""

from layerpost.checks import is_integer, is_way_word, is_within
from layerpost.errors import BadRun
from layerpost.paces import Endless, Steady, quiet_rows
from layerpost.pairs import Broken, Once, check_pair, played
from layerpost.stands import event_rows, first_of, hands_out, is_stuck

ROADS = 4


def is_road(pair, value):
    """Whether any value is what can be on a road, or None for a fallen one."""
    if value is None:
        return True
    if not isinstance(value, tuple) or len(value) > pair.room:
        return False
    return all([is_within(number, 1 - pair.marks, 1) for number in value])


def is_stand(pair, value):
    """Whether any value is of the kinds of a stand."""
    if not isinstance(value, tuple) or len(value) != 5:
        return False
    way, waits, ahead, roads, falls = value
    if not is_way_word(way) or not isinstance(waits, bool) or not is_within(ahead, 0, 1):
        return False
    if not isinstance(roads, tuple) or len(roads) != ROADS or not all([is_road(pair, road) for road in roads]):
        return False
    return is_within(falls, 0, pair.falls)


def goes_on(pair, stand, told):
    """Whether a stand is not stuck, and all events there lead to stands that are told."""
    if is_stuck(pair, stand):
        return False
    return all([outcome in told for _, outcome in event_rows(pair, stand)])


def are_closed(pair, stands):
    """Whether any values are stands, the first one among them, and with each one all behind it."""
    if not all([is_stand(pair, stand) for stand in stands]):
        return False
    told = {stand: True for stand in stands}
    return first_of(pair) in told and all([goes_on(pair, stand, told) for stand in told])


def outcomes_of(pair, run):
    """The list of the stands, or the word of a break, behind the events of any value; empty if it is no run."""
    if not isinstance(run, tuple):
        return []
    try:
        return played(pair, run)
    except BadRun:
        return []


def is_broken(pair, word, run):
    """Whether any values are the word of a break, and a run that ends so."""
    outcomes = outcomes_of(pair, run)
    if not outcomes:
        return False
    if isinstance(outcomes[-1], str):
        return outcomes[-1] == word
    return word == "stuck" and is_stuck(pair, outcomes[-1])


def shows_once(pair, value):
    """Whether any value is an Once of stands that never break, or a Broken of a run that does."""
    check_pair(pair)
    if isinstance(value, Once):
        return isinstance(value.stands, tuple) and are_closed(pair, value.stands)
    return isinstance(value, Broken) and is_broken(pair, value.word, value.run)


def are_heights(pair, most, heights):
    """Whether any values are a number, and a dict from stands to heights up to it that fall until a letter comes."""
    if not is_integer(most) or not isinstance(heights, dict) or not are_closed(pair, list(heights)):
        return False
    if not all([is_within(height, 1, most) for height in heights.values()]):
        return False
    return all([heights[stand] > heights[outcome] for stand in heights for _, outcome in quiet_rows(pair, stand)])


def is_endless(pair, begin, ring):
    """Whether any values are runs, the second one leading from a stand back to it without a letter."""
    if not isinstance(begin, tuple) or not isinstance(ring, tuple) or len(ring) == 0:
        return False
    stands = [first_of(pair), *outcomes_of(pair, begin + ring)]
    if len(stands) != len(begin) + len(ring) + 1 or stands[len(begin)] != stands[-1]:
        return False
    return not any([hands_out(stand, event) for stand, event in zip(stands[len(begin):], ring)])


def shows_steady(pair, value):
    """Whether any value is a Steady of heights that fall, or an Endless that leads round."""
    check_pair(pair)
    if isinstance(value, Steady):
        return are_heights(pair, value.most, value.heights)
    return isinstance(value, Endless) and is_endless(pair, value.begin, value.ring)
