"""Greatest delays as the tests reckon them: longest frames letter by letter, slots slot by slot, sums over lanes."""

from functools import lru_cache

from layerpost.plans import Plan
from layerpost.losses import LossRule
from tests.lines import SlowLine
from tests.nets import joined

NEAR = 260


@lru_cache(None)
def frame_lengths(flag, pairs, begin):
    """The signs of the longest frames of letters that are begin and 0, 1, .. signs more."""
    def sent(tail, sign):
        text = tail + sign
        while True:
            watches = [pair for pair in pairs if text.endswith(pair[0])]
            if not watches:
                return text[-8:], len(text) - len(tail)
            text += max(watches, key=lambda pair: len(pair[0]))[1]

    tails = {"": 0}
    lengths = []
    for at in range(len(begin) + NEAR):
        if at >= len(begin):
            lengths.append(max(tails.values()) + len(flag))
        after = {}
        for tail, many in tails.items():
            for sign in begin[at:at + 1] or "01":
                behind, more = sent(tail, sign)
                after[behind] = max(after.get(behind, 0), many + more)
        tails = after
    return lengths


def longest(rule, begin, length):
    """The signs of the longest frame of a letter that is begin and so many signs more, also far off."""
    lengths = frame_lengths(rule.flag, rule.pairs, begin)
    if length < len(lengths):
        return lengths[length]
    half = len(lengths) // 2
    for period in range(1, half):
        rise = lengths[-1] - lengths[-1 - period]
        if all([lengths[at + period] - lengths[at] == rise for at in range(half, len(lengths) - period)]):
            rounds = (length - half) // period
            return lengths[length - rounds * period] + rounds * rise
    raise ValueError("the lengths do not come round")


def cells_at(net, mark, length):
    """The most cells of a letter with a mark and so many bits."""
    return -(-longest(net.rule, str(mark), length) // net.size)


@lru_cache(None)
def delays_of(plan, rule):
    """The delays of the phases, by the texts of a plan and a rule."""
    answer = SlowLine(Plan.read(plan), LossRule.read(rule)).answer()
    return None if answer is None else answer[0]


def slots_at(plan, rule, cells):
    """The most own slots until so many cells are known."""
    delays = delays_of(str(plan), str(rule))
    rows = len([delay for delay in delays if delay is not None])
    rounds = max(0, cells // rows - 2)
    most = 0
    for begin in range(len(delays)):
        slot, left = 0, cells - rounds * rows
        while left:
            delay = delays[(begin + slot) % len(delays)]
            slot += 1
            if delay is not None:
                left -= 1
                most = max(most, slot + delay)
    return most + rounds * len(delays) if cells else 0


def wait_at(ring, flow, many):
    """The greatest wait for so many own slots."""
    own = [place for place, slot in enumerate(ring.slots) if slot == flow]
    rounds = max(0, many // len(own) - 2)
    left = many - rounds * len(own)
    waits = []
    for place in range(len(ring.slots)):
        tick, found = place, 0
        while found < left:
            found += ring.slots[tick % len(ring.slots)] == flow
            tick += 1
        waits.append(tick - place)
    return max(waits) + rounds * len(ring.slots)


def hop_at(lane, flow, cells):
    """The greatest ticks on a lane for so many cells."""
    return wait_at(lane.ring, flow, slots_at(lane.plan, lane.rule, cells)) + (lane.travel if cells else 0)


def hops_along(net, flow, houses, cells):
    """The triples of links, cells and ticks along a row of houses."""
    told = []
    for one, other in zip(houses, houses[1:]):
        link = joined(net, one, other)
        lane = link.there if link.one == one else link.back
        told.append((link.name, cells, hop_at(lane, flow, cells)))
    return tuple(told)


def forth_shares(net, flow, houses, mark, length):
    return hops_along(net, flow, houses, cells_at(net, mark, length))


def back_shares(net, flow, houses, mark):
    return hops_along(net, flow, houses[::-1], cells_at(net, mark, 0))


def delay_at(net, flow, houses, mark, length):
    """The greatest delay of a letter with a mark."""
    return sum([ticks for _, _, ticks in forth_shares(net, flow, houses, mark, length)])


def trip_at(net, flow, houses, mark, length):
    """The greatest round trip of a letter with a mark."""
    return delay_at(net, flow, houses, mark, length) + sum([ticks for _, _, ticks in back_shares(net, flow, houses, mark)])
