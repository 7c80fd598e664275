"""Letters through frames, cells, plans and losses, and back again."""

from layerpost.cells import cells_of, frame_of
from layerpost.frames import FrameRule, rightness
from layerpost.longest import longest_letter, most_cells
from layerpost.losses import Burst, Total
from layerpost.plans import Phase, Plan
from layerpost.repair import known_at, phase_delays, slots_needed
from tests.helpers import Case, dealer, some_signs
from tests.test_frames import HDLC, SHORT, letters_to
from tests.test_repair import DENSE, PLACES

LINES = ((Plan.plain(), Total(0)), (Plan.copies(1), Burst(1, 1)), (Plan.groups(2), Burst(1, 2)), (DENSE, PLACES),
         (Plan.copies(1, 2), Burst(2, 2)), (Plan(Phase((1, 2), (3,)), Phase((2,))), Burst(1, 3)))


class Receiver:
    """What comes on a line: sums of rows, resolved as far as they tell rows."""

    def __init__(self):
        self.sums = []

    def takes(self, mask, value):
        """A sum of the rows of a mask has come."""
        for row, told in self.sums:
            if mask ^ row < mask:
                mask, value = mask ^ row, value ^ told
        if mask:
            self.sums = [(row ^ mask, told ^ value) if row ^ mask < row else (row, told) for row, told in self.sums]
            self.sums = sorted([*self.sums, (mask, value)], reverse=True)

    def row(self, at):
        """The row of a slot, None if it is not known."""
        for row, told in self.sums:
            if row == 1 << at:
                return told
        return None


def sent_over(plan, begin, losses, rows):
    """The receivers behind each slot; rows are the contents of the slots, 0 where nothing is sent."""
    receiver = Receiver()
    for at, slot in enumerate(losses):
        phase = plan[begin + at]
        if slot == ".":
            if not phase.mute:
                receiver.takes(1 << at, rows[at])
            for ages in phase.sums:
                told = [at - age for age in ages if age <= at]
                value = 0
                for row in told:
                    value ^= rows[row]
                receiver.takes(sum([1 << row for row in told]), value)
        yield at, receiver


def let_losses(chance, rule, many):
    """So many slots by chance, with as many losses as the rule lets."""
    losses = ""
    for _ in range(many):
        slot = chance.choice(".xxx")
        losses += slot if rule.lets(losses + slot) else "."
    return losses


class LettersTest(Case):

    def test_letters_over_lines(self):
        chance = dealer(1)
        for plan, rule in LINES:
            needed = slots_needed(plan, rule)
            for _ in range(15):
                frames, size = chance.choice((SHORT, HDLC)), chance.randint(2, 9)
                letter = some_signs(chance, 0, 30)
                cells = cells_of(frames.frame(letter), size)
                begin, ahead = chance.randrange(len(plan)), chance.randrange(9)
                most = needed(len(cells))
                losses = let_losses(chance, rule, ahead + most)
                free = [at for at in range(ahead, ahead + most) if not plan[begin + at].mute][:len(cells)]
                rows = [chance.randrange(2 ** size) if at < ahead and not plan[begin + at].mute else 0
                        for at in range(ahead + most)]
                for at, cell in zip(free, cells):
                    rows[at] = int(cell, 2)
                self.arrives(frames, plan, begin, losses, rows, free, cells, letter)

    def arrives(self, frames, plan, begin, losses, rows, free, cells, letter):
        """Behind the last slot all cells are known, each one as known_at tells, and make the letter."""
        self.assertEqual(len(free), len(cells))
        known = known_at(plan, begin, losses)
        found = {}
        for at, receiver in sent_over(plan, begin, losses, rows):
            for row in free:
                if row <= at and row not in found and receiver.row(row) is not None:
                    found[row] = receiver.row(row)
                    self.assertEqual(known[row], at)
        size = len(cells[0])
        again = [f"{found[row]:b}".rjust(size, "0") for row in free]
        self.assertEqual(tuple(again), cells)
        self.assertEqual(frames.letter_of(frame_of(frames, again)), letter)

    def test_some_losses_need_all_these_slots(self):
        # The worst phase, and a row that is known only behind its whole delay.
        needed = slots_needed(Plan.groups(2), Burst(1, 2))
        self.assertEqual(phase_delays(Plan.groups(2), Burst(1, 2)), (2, 1, None))
        self.assertEqual((needed(1), known_at(Plan.groups(2), 2, ".x..")[1]), (4, 3))
        self.assertEqual((needed(2), known_at(Plan.groups(2), 2, "..x..")[2], needed(3)), (5, 3, 7))

    def test_most_cells_are_the_most_and_never_fall(self):
        for frames in (SHORT, HDLC, FrameRule("1011", ("101", "0"))):
            self.assertTrue(rightness(frames))
            for size in (1, 3, 8):
                growth = most_cells(frames, size)
                self.assertTrue(growth.is_rising)
                for many in range(8):
                    counts = [len(cells_of(frames.frame(letter), size)) for letter in letters_to(many)
                              if len(letter) == many]
                    self.assertEqual(max(counts), growth(many))
                longest = longest_letter(frames, 200)
                self.assertEqual(len(cells_of(frames.frame(longest), size)), growth(200))
