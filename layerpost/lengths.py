"""How many signs are sent at most, state by state, for the papers of longest frames.

Moves are those of layerpost.states: from each state, for each sign, the next
state and what is sent. Rows are a dict from the states to Growths.
"""

from math import lcm

from layerpost.series import first_values


def greatest_lengths(moves, many):
    """A dict from each state to the list of the most signs sent for 0, 1, .. signs of a letter, so many."""
    lengths = {state: [0] for state in moves}
    for at in range(many - 1):
        for state in moves:
            lengths[state].append(max([len(sent) + lengths[after][at] for after, sent in moves[state]]))
    return lengths


def is_faster(one, other):
    """Whether a Growth rises more for ever than another one."""
    top, bottom = one.rate
    other_top, other_bottom = other.rate
    return top * other_bottom > other_top * bottom


def is_lasting(row, branches):
    """Whether a Growth is for ever, for one length more, the greatest of its branches.

    A branch is the pair of the signs sent and the Growth of the state behind.
    One round of all gains tells all rounds, if it is always a branch of the same
    rate that is the greatest, and none has a greater rate.
    """
    if any([is_faster(growth, row) for _, growth in branches]):
        return False
    growths = [row, *[growth for _, growth in branches]]
    begin = max([len(growth.told) for growth in growths])
    length = 1
    for growth in growths:
        length = lcm(length, len(growth.gains))
    many = begin + length
    wanted = first_values(row, many + 1)[1:]
    lines = [[sent + value for value in first_values(growth, many)] for sent, growth in branches]
    if wanted != [max(pair) for pair in zip(*lines)]:
        return False
    lasting = [line[begin:] for line, (_, growth) in zip(lines, branches) if not is_faster(row, growth)]
    return lasting != [] and wanted[begin:] == [max(pair) for pair in zip(*lasting)]


def are_lasting(moves, rows):
    """Whether each of these Growths is 0 at 0, and for ever the greatest of its branches."""
    for state in moves:
        branches = [(len(sent), rows[after]) for after, sent in moves[state]]
        if rows[state].told[0] != 0 or not is_lasting(rows[state], branches):
            return False
    return True
