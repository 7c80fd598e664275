"""Cells: there and back, and cells that no frame has."""

from layerpost.cells import cells_of, frame_of
from layerpost.frames import FrameRule, rightness
from layerpost.longest import most_cells
from tests.helpers import Case, any_values, dealer, error_of, some_signs
from tests.test_frames import HDLC, SHORT, dealt_rule, letters_to


def slow_cells(frame, size):
    """The cells of a frame, sign by sign."""
    cells = [""]
    for sign in frame:
        if len(cells[-1]) == size:
            cells.append("")
        cells[-1] += sign
    while len(cells[-1]) < size:
        cells[-1] += "0"
    return tuple(cells)


class CellsOfTest(Case):

    def test_parts_of_all_sizes(self):
        chance = dealer(1)
        for size in range(1, 33):
            for many in (1, size - 1, size, size + 1, 3 * size, 3 * size + 1, 200):
                if many > 0:
                    frame = some_signs(chance, many, many)
                    self.assertEqual(cells_of(frame, size), slow_cells(frame, size))
        self.assertEqual(cells_of(frame="1", size=3), ("100",))

    def test_refused(self):
        for value in [*any_values(), "", "012"]:
            self.refused(("BadFrame", "signs"), cells_of, value, value)
        for value in [*any_values(), 0, 33]:
            self.refused(("BadNumber", value), cells_of, "01", value)


class FrameOfTest(Case):

    def test_there_and_back(self):
        chance = dealer(2)
        many = 0
        while many < 40:
            rule = dealt_rule(chance)
            if not rightness(rule):
                continue
            many += 1
            for letter in [*letters_to(4), some_signs(chance, 100, 200)]:
                frame = rule.frame(letter)
                for size in (1, 2, 5, 32):
                    cells = cells_of(frame, size)
                    self.assertEqual(frame_of(rule, cells), frame)
                    self.assertEqual(frame_of(rule=rule, cells=list(cells)), frame)
                    self.assertEqual(rule.letter_of(frame_of(rule, cells)), letter)
                    self.assertLessEqual(len(cells), most_cells(rule, size)(len(letter)))

    def test_cells_with_one_sign_turned(self):
        chance = dealer(3)
        for _ in range(60):
            rule = chance.choice((SHORT, HDLC))
            cells = cells_of(rule.frame(some_signs(chance, 0, 20)), chance.randint(1, 9))
            size = len(cells[0])
            for at in range(len(cells) * size):
                signs = "".join(cells)
                turned = signs[:at] + ("1" if signs[at] == "0" else "0") + signs[at + 1:]
                begin = turned.find(rule.flag)
                end = begin + len(rule.flag)
                told = (rule, slow_cells(turned, size))
                if begin < 0 or end <= len(turned) - size:
                    self.refused(("BadFrame", "flag"), frame_of, *told)
                elif "1" in turned[end:]:
                    self.refused(("BadFrame", "fill"), frame_of, *told)
                else:
                    self.assertEqual(frame_of(*told), turned[:end])

    def test_cells_left_out_and_put_in(self):
        cells = cells_of(SHORT.frame("0101"), 4)
        self.assertEqual(cells, ("0100", "1001", "1000"))
        self.refused(("BadFrame", "flag"), frame_of, SHORT, cells[:2])
        self.refused(("BadFrame", "flag"), frame_of, SHORT, [*cells, "0000"])
        self.refused(("BadFrame", "flag"), frame_of, SHORT, [*cells, "1111"])
        self.refused(("BadFrame", "fill"), frame_of, SHORT, [*cells[:2], "1001"])
        self.assertEqual(frame_of(SHORT, ("0000", *cells)), "0000" + SHORT.frame("0101"))
        # The flag ends with the last sign of the last cell, and just ahead of the last cell.
        self.assertEqual(frame_of(SHORT, ("000", "011")), "000011")
        self.refused(("BadFrame", "flag"), frame_of, SHORT, ("011", "000"))
        self.assertEqual(frame_of(SHORT, ("001", "100")), "0011")

    def test_refused(self):
        for value in any_values():
            if not isinstance(value, FrameRule):
                self.refused(("BadRule", "rule"), frame_of, value, value)
            if not isinstance(value, (list, tuple)):
                self.refused(("BadCell", "cells"), frame_of, SHORT, value)
            self.refused(("BadCell", 1), frame_of, SHORT, ["01", value, value])
            self.refused(("BadCell", 0), frame_of, SHORT, (value, "01"))
        for value in ([], ()):
            self.refused(("BadCell", "cells"), frame_of, SHORT, value)
        for cells, at in ((["01", "011"], 1), (["01", ""], 1), ([""], 0), (["0" * 33], 0), (["01", "01", "02"], 2),
                          (["01", "0"], 1), ([["01"]], 0), (["0", "1", True], 2)):
            self.refused(("BadCell", at), frame_of, SHORT, cells)
        self.refused(("BadCell", 2), frame_of, SHORT, ["011", "000", "1"])
        self.assertIsNone(error_of(frame_of, SHORT, ["011" + "0" * 29]))
