"""How the stand of a pair goes on: all events that can come, with what they do.

A stand is a tuple (way, waits, ahead, roads, falls), roads being four: the
letters and the answers of the first way, then those of the spare one. Letters
are told by their number less that of the letters that were handed out, so the
letter 1 is the next one to be handed out. Where a parameter is called pair, it is
a Pair, of which this file reads the parts.
"""

from layerpost.checks import WAYS

PARTS = ("letters", "answers")


def first_of(pair):
    """The stand at which a pair begins."""
    return "first", False, 1, ((), (), (), ()), pair.falls


def letters_at(way):
    """The index of the road of letters of a way; that of its answers is the next one."""
    return 2 * WAYS.index(way)


def one_less(number, marks):
    """A number of at most 1, less by 1, as stands tell it: below 1 only its rest by the marks counts."""
    return -((1 - number) % marks)


def has_room(pair, road):
    """Whether something more can be put on a road."""
    return road is None or len(road) < pair.room


def is_on(number, road):
    """Whether a letter or an answer with a number is on a road."""
    return road is not None and number in road


def places_on(pair, road):
    """The indexes of a road at which something can come in or be lost."""
    if road is None:
        return []
    return list(range(min(1, len(road)) if pair.order else len(road)))


def with_road(roads, at, road):
    """The roads with another one in the place of one of them."""
    return (*roads[:at], road, *roads[at + 1:])


def put_on(roads, at, number):
    """The roads with a number put on one of them; it is gone if this one has fallen."""
    return roads if roads[at] is None else with_road(roads, at, (*roads[at], number))


def taken_off(roads, at, place):
    """The roads without what is at a place of one of them."""
    return with_road(roads, at, roads[at][:place] + roads[at][place + 1:])


def lowered(roads, marks):
    """The roads behind a letter that was handed out: all numbers are less by 1."""
    return tuple([None if road is None else tuple([one_less(number, marks) for number in road]) for road in roads])


def send_rows(pair, stand):
    """The event of a sending, if it can come, with its outcome."""
    way, waits, ahead, roads, falls = stand
    at = letters_at(way)
    if waits or not has_room(pair, roads[at]):
        return []
    return [(("send",), (way, True, ahead, put_on(roads, at, ahead), falls))]


def arrived(pair, stand, at, place):
    """The outcome of a letter that comes in from a road."""
    way, waits, ahead, roads, falls = stand
    number = roads[at][place]
    left = put_on(taken_off(roads, at, place), at + 1, number)
    if number == 1:
        return way, waits, one_less(ahead, pair.marks), lowered(left, pair.marks), falls
    if (number - 1) % pair.marks == 0:
        return "twice"
    return way, waits, ahead, left, falls


def answered(pair, stand, at, place):
    """The outcome of an answer that comes in from a road."""
    way, waits, ahead, roads, falls = stand
    number = roads[at][place]
    left = taken_off(roads, at, place)
    if not waits or (number - ahead) % pair.marks != 0:
        return way, waits, ahead, left, falls
    if ahead > 0:
        return "skipped"
    return way, False, ahead + 1, left, falls


def arrive_rows(pair, stand):
    """The events of letters that come in, with their outcomes."""
    roads = stand[3]
    rows = []
    for way in WAYS:
        at = letters_at(way)
        if has_room(pair, roads[at + 1]):
            rows.extend([(("arrive", way, place), arrived(pair, stand, at, place))
                         for place in places_on(pair, roads[at])])
    return rows


def answer_rows(pair, stand):
    """The events of answers that come in, with their outcomes."""
    roads = stand[3]
    rows = []
    for way in WAYS:
        at = letters_at(way) + 1
        rows.extend([(("answer", way, place), answered(pair, stand, at, place))
                     for place in places_on(pair, roads[at])])
    return rows


def timeout_rows(pair, stand):
    """The event of a time-out, if it can come, with its outcome."""
    way, waits, ahead, roads, falls = stand
    if not waits or pair.timeouts == "never" or pair.change == "stay" and way != "first":
        return []
    at = letters_at(way)
    if pair.timeouts == "late" and (is_on(ahead, roads[at]) or is_on(ahead, roads[at + 1])):
        return []
    other = "spare" if way == "first" else "first"
    at = letters_at(other)
    if not has_room(pair, roads[at]):
        return []
    return [(("timeout",), (other, True, ahead, put_on(roads, at, ahead), falls))]


def fall_rows(stand):
    """The events of falls, with their outcomes."""
    way, waits, ahead, roads, falls = stand
    if falls == 0:
        return []
    rows = []
    for fallen in WAYS:
        at = letters_at(fallen)
        letters = with_road(roads, at, None)
        for part, left in (("letters", letters), ("answers", with_road(roads, at + 1, None)),
                           ("both", with_road(letters, at + 1, None))):
            rows.append((("fall", fallen, part), (way, waits, ahead, left, falls - 1)))
    return rows


def lose_rows(pair, stand):
    """The events of losses, with their outcomes."""
    way, waits, ahead, roads, falls = stand
    if not pair.losses:
        return []
    rows = []
    for at, road in enumerate(roads):
        for place in places_on(pair, road):
            event = ("lose", WAYS[at // 2], PARTS[at % 2], place)
            rows.append((event, (way, waits, ahead, taken_off(roads, at, place), falls)))
    return rows


def onward_rows(pair, stand):
    """The events but falls and losses, in their order, with their outcomes."""
    return [*send_rows(pair, stand), *arrive_rows(pair, stand), *answer_rows(pair, stand), *timeout_rows(pair, stand)]


def event_rows(pair, stand):
    """All events that can come, in their order, with their outcomes: the next stand, or the word of a break."""
    return [*onward_rows(pair, stand), *fall_rows(stand), *lose_rows(pair, stand)]


def is_stuck(pair, stand):
    """Whether none but falls and losses can come."""
    return not onward_rows(pair, stand)


def hands_out(stand, event):
    """Whether an event that breaks nothing hands out a letter."""
    return event[0] == "arrive" and stand[3][letters_at(event[1])][event[2]] == 1
