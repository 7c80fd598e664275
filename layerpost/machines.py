"""Machines of places, for loss rules: which losses they let, and with how few places.

A machine is a row of pairs: the place behind a kept slot, and that behind a lost
one, or None where it is not let. Operators call these functions, so none of them
changes what it did not make.
"""

MOST_PLACES = 12
MOST_SLOTS = 400
# The place of a machine that lets no more what is asked, beside another one that does.
GONE = -1


def is_slots(value):
    """Whether any value is a string of kept and lost slots."""
    return isinstance(value, str) and value.strip(".x") == ""


def is_losses(value):
    """Whether any value is a string of at most 400 kept and lost slots."""
    return is_slots(value) and len(value) <= MOST_SLOTS


def place_behind(places, place, slot):
    """The place behind a kept slot (0) or a lost one (1), GONE if there is none."""
    if place == GONE or places[place][slot] is None:
        return GONE
    return places[place][slot]


def joined_places(one, other, is_both):
    """The machine that lets what both machines let, or what one of them lets."""
    order = [(0, 0)]
    numbers = {(0, 0): 0}
    rows = []
    while len(rows) < len(order):
        left, right = order[len(rows)]
        row = []
        for slot in (0, 1):
            pair = (place_behind(one, left, slot), place_behind(other, right, slot))
            if pair == (GONE, GONE) or is_both and GONE in pair:
                row.append(None)
                continue
            if pair not in numbers:
                numbers[pair] = len(order)
                order.append(pair)
            row.append(numbers[pair])
        rows.append(tuple(row))
    return rows


def is_part(one, other):
    """Whether the other machine lets all that one lets."""
    order = [(0, 0)]
    seen = {(0, 0): True}
    at = 0
    while at < len(order):
        left, right = order[at]
        at += 1
        for slot in (0, 1):
            pair = (place_behind(one, left, slot), place_behind(other, right, slot))
            if pair[0] == GONE or pair in seen:
                continue
            if pair[1] == GONE:
                return False
            seen[pair] = True
            order.append(pair)
    return True


def place_kinds(places):
    """For each place the number of its kind: places of one kind let the same losses."""
    kinds = [0 for _ in places]
    many = 1
    while True:
        numbers = {}
        finer = []
        for place, (kept, lost) in enumerate(places):
            mark = (kinds[place], kinds[kept], None if lost is None else kinds[lost])
            if mark not in numbers:
                numbers[mark] = len(numbers)
            finer.append(numbers[mark])
        if len(numbers) == many:
            return kinds
        many = len(numbers)
        kinds = finer


def least_places(places):
    """The machine with the fewest places that lets the same, numbered as they are first come to."""
    kinds = place_kinds(places)
    order = [0]
    numbers = {kinds[0]: 0}
    rows = []
    while len(rows) < len(order):
        row = []
        pair = places[order[len(rows)]]
        for place in pair:
            if place is None:
                row.append(None)
                continue
            if kinds[place] not in numbers:
                numbers[kinds[place]] = len(order)
                order.append(place)
            row.append(numbers[kinds[place]])
        rows.append(tuple(row))
    return tuple(rows)
