"""Cells: the parts of one size that a frame goes in, the last one filled up."""

from layerpost.checks import is_signs, is_signs_within, is_within
from layerpost.errors import BadCell, BadFrame, BadNumber, BadRule
from layerpost.frames import FrameRule

MOST_SIZE = 32


def cells_of(frame, size):
    """The tuple of the cells of a frame."""
    if not is_signs(frame) or frame == "":
        raise BadFrame("signs")
    if not is_within(size, 1, MOST_SIZE):
        raise BadNumber(size)
    parts = [frame[at:at + size] for at in range(0, len(frame), size)]
    return tuple([part.ljust(size, "0") for part in parts])


def check_cells(cells):
    """Raises if any value is no row of cells of one size."""
    if not isinstance(cells, (list, tuple)) or len(cells) == 0:
        raise BadCell("cells")
    for at, cell in enumerate(cells):
        if not is_signs_within(cell, 1, MOST_SIZE) or len(cell) != len(cells[0]):
            raise BadCell(at)


def frame_of(rule, cells):
    """The frame whose cells these are."""
    if not isinstance(rule, FrameRule):
        raise BadRule("rule")
    check_cells(cells)
    signs = "".join(cells)
    begin = signs.find(rule.flag)
    end = begin + len(rule.flag)
    if begin < 0 or end <= len(signs) - len(cells[-1]):
        raise BadFrame("flag")
    if signs[end:].strip("0") != "":
        raise BadFrame("fill")
    return signs[:end]
