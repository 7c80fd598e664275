"""Repair: delays, tables, worst losses and slots needed, against all standings walked through."""

from itertools import product
from unittest.mock import patch

from layerpost.growths import Growth
from layerpost.losses import Burst, LossRule, MachineRule, Total
from layerpost.plans import Phase, Plan
from layerpost.repair import (Closed, Never, Worst, known_at, phase_delays, repaired, slots_needed, worst_losses)
from layerpost.spaces import Space
from tests.helpers import Case, any_values, dealer, error_of
from tests.lines import SlowLine, closed_under, slow_known
from tests.test_losses import dealt_places
from tests.test_plans import dealt_plan

ONE, TWO = Burst(1, 1), Burst(2, 2)
COPIES, PAIRS = Plan.copies(1), Plan.groups(2)
DENSE = Plan(Phase((1, 2, 3, 4), (1, 4)), Phase((1, 3, 4), (2, 4)), Phase((1, 2, 3, 4)))
WIDE = Plan(Phase((1, 2, 3, 4), (1, 2, 4), (2,)), Phase((1, 2, 3, 4), (2,), (4,)), Phase((1, 2, 3, 4), (2, 3, 4)),
            Phase((1, 2, 3, 4), (3,)))
PLACES = MachineRule((1, 2), (3, 3), (4, 5), (2, None), (5, None), (6, None), (7, 1), (8, None), (9, 10), (11, None), (0, 1),
                     (10, None))


def dealt_rule(chance):
    """A loss rule by chance, mostly one under which much is repaired."""
    return chance.choice((
        Total(chance.randint(0, 3)), Burst(chance.randint(1, 2), chance.randint(1, 4)), Burst(1, chance.randint(1, 5)),
        MachineRule(*dealt_places(chance, 4)), MachineRule(*dealt_places(chance, 6)), MachineRule((0, None))))


def dealt_lines(seed, many, most=3):
    """Pairs of a plan and a rule by chance."""
    chance = dealer(seed)
    return [(dealt_plan(chance, most), dealt_rule(chance)) for _ in range(many)]


def most_needed(plan, delays, rows):
    """The most own slots from a first one on to the one behind which so many rows are known, row by row."""
    most = 0
    for begin in range(len(plan)):
        done, slot = 0, 0
        while done < rows:
            slot += 1
            delay = delays[(begin + slot - 1) % len(plan)]
            if delay is not None:
                done += 1
                most = max(most, slot + delay)
    return most


class KnownTest(Case):

    def test_against_all_differences(self):
        chance = dealer(1)
        for _ in range(120):
            plan = dealt_plan(chance, 4, 4)
            for _ in range(4):
                losses = "".join([chance.choice(".x") for _ in range(chance.randint(0, 10))])
                begin = chance.randrange(len(plan))
                self.assertEqual(known_at(plan, begin, losses), slow_known(plan, begin, losses))
        for losses in product(".x", repeat=7):
            self.assertEqual(known_at(DENSE, 1, "".join(losses)), slow_known(DENSE, 1, "".join(losses)))

    def test_mute_slots_and_rows_that_stay_unknown(self):
        self.assertEqual(known_at(COPIES, 0, ""), ())
        self.assertEqual(known_at(COPIES, 0, "xx."), (None, 2, 2))
        self.assertEqual(known_at(PAIRS, 0, "x.x.."), (None, 1, None, 3, 4))
        self.assertEqual(known_at(plan=PAIRS, begin=0, losses="x.."), (2, 1, None))
        # Rows ahead of the begin are known: a sum with one of them tells the other one.
        self.assertEqual(known_at(Plan(Phase((1, 2))), 0, "x."), (1, 1))
        self.assertEqual(known_at(Plan(Phase((1, 2))), 0, "xx."), (None, None, 2))

    def test_what_comes_much_later_tells_what_was_far_back(self):
        # Each sum is of two rows that follow: the last row tells all rows back to the first.
        plan = Plan(Phase(), Phase((1, 3), mute=True))
        for links in (1, 2, 3, 190):
            losses = "xx" + links * "x." + ".."
            last = len(losses) - 1
            known = known_at(plan, 0, losses)
            self.assertEqual(known, (*[None if at % 2 else last for at in range(last - 1)], last - 1, None))
            if links < 4:
                self.assertEqual(known, slow_known(plan, 0, losses))
            self.assertEqual(known_at(plan, 0, losses[:-1])[:last - 1], (None,) * (last - 1))
        back = Plan(Phase((1, 2)), Phase((1,)))
        self.assertEqual(known_at(back, 1, "x" * 399 + ".")[396:], (None, None, None, 399))

    def test_four_hundred_slots(self):
        self.assertEqual(known_at(COPIES, 0, "x." * 200), tuple([at | 1 for at in range(400)]))
        self.assertEqual(known_at(Plan(Phase((1, 4), (2, 3), (1, 2, 3, 4))), 0, "xx." * 133 + "x")[-1], None)
        self.assertEqual(set(known_at(Plan.plain(), 0, "x" * 400)), {None})

    def test_refused(self):
        for value in any_values():
            self.refused(("BadPlan", "plan"), known_at, value, None, None)
            self.refused(("NoPhase", value), known_at, PAIRS, value, None)
            self.refused(("BadLosses", value), known_at, PAIRS, 2, value)
        self.refused(("NoPhase", 3), known_at, PAIRS, 3, 5)
        self.refused(("BadLosses", "." * 401), known_at, PAIRS, 0, "." * 401)


class RepairedTest(Case):

    def is_answer(self, plan, rule):
        """The answer of repaired is the one of all standings."""
        slow = SlowLine(plan, rule)
        answer = repaired(plan, rule)
        if slow.has_ring():
            self.assertIsInstance(answer, Never)
            self.assertIsNone(phase_delays(plan, rule))
            self.leads_round(plan, rule, answer)
            return answer
        delays, standings, rows = slow.answer()
        self.assertIsInstance(answer, Closed)
        self.assertEqual((answer.delays, phase_delays(plan, rule)), (delays, delays))
        self.assertIsInstance(answer.table, tuple)
        told = [(*row[:-1], closed_under(row[-1])) for row in answer.table]
        self.assertEqual(len(told), len(set(told)))
        self.assertEqual(set(told), standings | rows)
        for row in answer.table:
            self.assertEqual(Space(4 if len(row) == 3 else 5, *row[-1]).basis, row[-1])
        return answer

    def leads_round(self, plan, rule, never):
        """The losses of a Never are let, any number of rounds, and the row stays unknown."""
        for rounds in (0, 1, 2, 5):
            losses = never.before + never.lost + rounds * never.again
            self.assertTrue(rule.lets(losses))
            own = len(never.before)
            self.assertFalse(plan[never.begin + own].mute)
            self.assertIsNone(known_at(plan, never.begin, losses)[own])
        self.assertEqual(len(never.again) % len(plan), 0)
        self.assertGreater(len(never.again), 0)
        self.assertEqual(never.lost[0], "x")

    def test_against_all_standings(self):
        many = {True: 0, False: 0}
        for plan, rule in dealt_lines(2, 150):
            many[bool(self.is_answer(plan, rule))] += 1
        self.assertGreater(min(many.values()), 25)

    def test_dense_plans_and_twelve_places(self):
        for plan, rule in ((DENSE, PLACES), (WIDE, Total(4)), (DENSE, Burst(2, 8)), (WIDE, Burst(4, 8)), (WIDE, Total(8)),
                           (DENSE, Burst(2, 4) | Total(2)), (Plan.copies(1, 2, 3, 4), Burst(4, 8)),
                           (Plan(Phase(), Phase(), Phase(), Phase((1, 2, 3))), PLACES)):
            self.is_answer(plan, rule)
        self.assertEqual(phase_delays(DENSE, PLACES), (15, 14, 10))

    def test_rows_that_need_never_be_known(self):
        never = repaired(Plan.plain(), Total(1))
        self.assertEqual((bool(never), never.begin, never.before, never.lost[0]), (False, 0, "", "x"))
        for plan, rule in ((Plan.plain(), Total(1)), (COPIES, TWO), (Plan.groups(3), Burst(2, 8)), (PAIRS, ONE)):
            self.leads_round(plan, rule, repaired(plan, rule))
        self.assertEqual(phase_delays(Plan.plain(), Total(0)), (0,))

    def test_mute_phases(self):
        self.assertEqual(phase_delays(PAIRS, Burst(1, 2)), (2, 1, None))
        self.assertEqual(phase_delays(Plan(Phase((2,)), Phase(mute=True)), Burst(1, 2)), (2, None))
        self.assertEqual(repaired(Plan(Phase(), Phase((1,), mute=True)), Total(0)).delays, (0, None))

    def test_losses_that_are_let_never_take_longer(self):
        chance = dealer(3)
        for plan, rule in dealt_lines(4, 60):
            delays = phase_delays(plan, rule)
            if delays is None:
                continue
            many = max([delay for delay in delays if delay is not None]) + 4
            for _ in range(30):
                begin, losses = chance.randrange(len(plan)), ""
                while len(losses) < 40:
                    slot = chance.choice(".xx")
                    losses += slot if rule.lets(losses + slot) else "."
                known = known_at(plan, begin, losses)
                for at in range(40 - many):
                    delay = delays[(begin + at) % len(plan)]
                    self.assertIs(known[at] is None, delay is None)
                    self.assertTrue(delay is None or known[at] <= at + delay)


class WorstTest(Case):

    def test_the_delay_is_met(self):
        for plan, rule in [*dealt_lines(5, 80), (DENSE, PLACES), (WIDE, Total(4)), (PAIRS, Burst(1, 2))]:
            delays = phase_delays(plan, rule)
            for phase in range(len(plan)):
                if plan[phase].mute:
                    self.refused(("NoPhase", phase), worst_losses, plan, rule, phase)
                elif delays is None:
                    self.refused(("Nothing",), worst_losses, plan, rule, phase)
                else:
                    worst = worst_losses(plan, rule, phase)
                    own = len(worst.before)
                    self.assertEqual(len(worst.losses), delays[phase])
                    self.assertEqual((worst.begin + own) % len(plan), phase)
                    self.assertTrue(rule.lets(worst.before + worst.losses))
                    if worst.losses:
                        self.assertIsNone(known_at(plan, worst.begin, worst.before + worst.losses)[own])
                    self.assertEqual(worst, worst_losses(plan, rule, phase))

    def test_no_losses_for_the_delay_0(self):
        worst = worst_losses(COPIES, Total(0), 0)
        self.assertEqual((worst.losses, (worst.begin + len(worst.before)) % 1), ("", 0))


class NeededTest(Case):

    def test_row_by_row(self):
        for plan, rule in [*dealt_lines(6, 100), (DENSE, PLACES), (WIDE, Total(4)), (Plan.groups(3), Burst(1, 3))]:
            delays = phase_delays(plan, rule)
            if delays is None:
                self.refused(("Nothing",), slots_needed, plan, rule)
                continue
            growth = slots_needed(plan, rule)
            self.assertTrue(growth.is_rising)
            for rows in range(25):
                self.assertEqual(growth(rows), most_needed(plan, delays, rows))
            row_phases = len([phase for phase in plan if not phase.mute])
            self.assertEqual(growth(10 ** 30 * row_phases + 7), growth(7) + 10 ** 30 * len(plan))

    def test_told_growths(self):
        self.assertEqual(slots_needed(COPIES, ONE), Growth((0, 2), (1,)))
        self.assertEqual(str(slots_needed(PAIRS, Burst(1, 2))), "0 4 then 1 2")
        self.assertEqual(slots_needed(Plan.plain(), Total(0)), Growth.ramp(1))


class RefusedTest(Case):

    def test_plans_and_rules_first(self):
        for value in any_values():
            for work in (repaired, phase_delays, slots_needed):
                self.refused(("BadPlan", "plan"), work, value, value)
                self.refused(("BadRule", "rule"), work, COPIES, value)
            self.refused(("BadPlan", "plan"), worst_losses, value, value, None)
            self.refused(("BadRule", "rule"), worst_losses, COPIES, value, None)
            self.refused(("NoPhase", value), worst_losses, PAIRS, ONE, value)
        self.refused(("NoPhase", 2), worst_losses, PAIRS, TWO, 2)
        self.refused(("NoPhase", 3), worst_losses, PAIRS, TWO, phase=3)
        self.refused(("Nothing",), slots_needed, COPIES, TWO)
        self.assertIsNone(error_of(repaired, plan=COPIES, rule=LossRule.read("losses 0 -")))


class GreatTablesTest(Case):

    def test_a_table_of_too_many_rows(self):
        # No plan within the bounds of these tests has so great a table, so the bound is set lower.
        rows = len(repaired(PAIRS, Burst(1, 2)).table)
        for most, wanted in ((rows, None), (rows - 1, ("TooMany", "rows", rows - 1)), (2, ("TooMany", "rows", 2))):
            with patch("layerpost.repair.MOST_ROWS", most):
                for work in (repaired, phase_delays, slots_needed):
                    self.assertEqual(error_of(work, PAIRS, Burst(1, 2)), wanted)
                self.assertEqual(error_of(worst_losses, PAIRS, Burst(1, 2), 0), wanted)
                self.refused(("NoPhase", 2), worst_losses, PAIRS, Burst(1, 2), 2)

    def test_a_table_of_standings_alone(self):
        for most, wanted in ((0, ("TooMany", "rows", 0)), (1, None)):
            with patch("layerpost.repair.MOST_ROWS", most):
                self.assertEqual(error_of(repaired, Plan.plain(), Total(0)), wanted)

    def test_nothing_comes_ahead_of_too_many(self):
        with patch("layerpost.repair.MOST_ROWS", 2):
            self.assertIsNone(phase_delays(COPIES, TWO))
            self.assertIsInstance(repaired(COPIES, TWO), Never)
            self.refused(("Nothing",), worst_losses, COPIES, TWO, 0)
            self.refused(("Nothing",), slots_needed, COPIES, TWO)


class PapersTest(Case):

    def test_kept_and_equal(self):
        closed = Closed(delays=1, table=[2])
        self.assertEqual((closed.delays, closed.table, bool(closed)), (1, [2], True))
        never = Never(begin=None, before=1, lost=2, again=3)
        self.assertEqual((never.begin, never.before, never.lost, never.again, bool(never)), (None, 1, 2, 3, False))
        worst = Worst(begin=1, before="", losses="x")
        self.assertEqual((worst.begin, worst.before, worst.losses, bool(worst)), (1, "", "x", True))
        self.assertEqual(closed, Closed(1, [2]))
        self.assertEqual(never, Never(None, 1, 2, 3))
        self.assertEqual(worst, Worst(1, "", "x"))
        for other in (Closed(2, [2]), Closed(1, (2,)), never, worst, (1, [2])):
            self.assertNotEqual(closed, other)
        for other in (Never(0, 1, 2, 3), Never(None, 0, 2, 3), Never(None, 1, 0, 3), Never(None, 1, 2, 0), closed):
            self.assertNotEqual(never, other)
        for other in (Worst(0, "", "x"), Worst(1, "x", "x"), Worst(1, "", ""), closed):
            self.assertNotEqual(worst, other)
