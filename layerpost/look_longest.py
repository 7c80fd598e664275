"""Looks at papers of longest frames: whether they are right at all lengths."""

from layerpost.errors import BadRule
from layerpost.frames import FrameRule
from layerpost.growths import Growth
from layerpost.lengths import are_lasting, greatest_lengths
from layerpost.longest import Longest
from layerpost.series import first_values
from layerpost.states import moves_of


def are_rows(moves, rows):
    """Whether any value is a dict from just these states to Growths."""
    if not isinstance(rows, dict) or len(rows) != len(moves):
        return False
    return all([state in rows and isinstance(rows[state], Growth) for state in moves])


def are_first(moves, rows):
    """Whether the Growths are right at all lengths that they tell, and two rounds of gains further."""
    many = max([len(row.told) + 2 * len(row.gains) for row in rows.values()])
    lengths = greatest_lengths(moves, many)
    return all([first_values(rows[state], many) == lengths[state] for state in moves])


def shows_longest(rule, value):
    """Whether any value is the Longest of a rule."""
    if not isinstance(rule, FrameRule):
        raise BadRule("rule")
    moves = moves_of(rule.flag, rule.pairs)
    if not isinstance(value, Longest) or not are_rows(moves, value.rows):
        return False
    # The first lengths are looked at first: what is right there has few gains together.
    return are_first(moves, value.rows) and are_lasting(moves, value.rows)
