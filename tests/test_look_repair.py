"""Lookers at papers of repair: what is told, and the same with something otherwise."""

from layerpost.losses import Burst, Total
from layerpost.look_repair import shows_repaired, shows_worst
from layerpost.plans import Plan
from layerpost.repair import Closed, Never, Worst, known_at, repaired, worst_losses
from tests.helpers import Case, any_values, dealer
from tests.test_repair import COPIES, DENSE, ONE, PAIRS, PLACES, TWO, WIDE, dealt_lines


def closed_lines(seed, many):
    """Triples of a plan, a rule and its Closed, by chance."""
    lines = [(plan, rule, repaired(plan, rule)) for plan, rule in dealt_lines(seed, many)]
    return [line for line in lines if line[2]]


class ShowsClosedTest(Case):

    def test_what_is_told(self):
        for plan, rule in [*dealt_lines(1, 80), (DENSE, PLACES), (WIDE, Total(4)), (PAIRS, Burst(1, 2)), (COPIES, TWO)]:
            self.assertIs(shows_repaired(plan, rule, repaired(plan, rule)), True)

    def test_delays_one_more_and_one_less(self):
        for plan, rule, closed in closed_lines(2, 60):
            for phase in range(len(plan)):
                if plan[phase].mute:
                    continue
                for delay in (closed.delays[phase] - 1, closed.delays[phase] + 1, closed.delays[phase] + 10 ** 40):
                    delays = (*closed.delays[:phase], delay, *closed.delays[phase + 1:])
                    is_right = delay > closed.delays[phase]
                    self.assertIs(shows_repaired(plan, rule, Closed(delays, closed.table)), is_right)

    def test_rows_left_out(self):
        for plan, rule, closed in [*closed_lines(3, 30), (PAIRS, Burst(1, 2), repaired(PAIRS, Burst(1, 2)))]:
            for at in range(len(closed.table)):
                table = closed.table[:at] + closed.table[at + 1:]
                self.assertIs(shows_repaired(plan, rule, Closed(closed.delays, table)), False)

    def test_another_order_and_told_twice(self):
        chance = dealer(4)
        for plan, rule, closed in closed_lines(5, 30):
            table = list(closed.table) * 2
            chance.shuffle(table)
            self.assertIs(shows_repaired(plan, rule, Closed(closed.delays, tuple(table))), True)
            self.assertIs(shows_repaired(plan, rule, Closed(closed.delays, table)), False)
            self.assertIs(shows_repaired(plan, rule, Closed(list(closed.delays), closed.table)), False)

    def test_rows_put_in(self):
        closed = repaired(COPIES, ONE)
        self.assertEqual(set(closed.table), {(0, 0, ()), (0, 1, (1,)), (0, 0, 0, 1, (17,))})

        def shows(*rows, delays=(1,)):
            return shows_repaired(COPIES, ONE, Closed(delays, closed.table + rows))

        # More than needed: standings that lead to told rows, rows that are known, or that nothing leads to.
        self.assertIs(shows((0, 1, ())), True)
        self.assertIs(shows((0, 0, (2,))), False)
        self.assertIs(shows((0, 0, (2,)), (0, 1, (4, 1)), (0, 0, (4,)), (0, 0, (8,)), (0, 1, (8, 1))), False)
        self.assertIs(shows((0, 1, (8,))), True)
        self.assertIs(shows((0, 0, (8,))), True)
        self.assertIs(shows((0, 1, (4,))), False)
        self.assertIs(shows((0, 1, (15,)), (0, 0, 0, 1, (31,))), True)
        self.assertIs(shows((0, 1, (4,)), (0, 0, (8,))), True)
        self.assertIs(shows((0, 0, 1, 1)), False)
        # A row of five that is known leads nowhere; one that is not known, further on.
        self.assertIs(shows((0, 0, 0, 0, ())), True)
        self.assertIs(shows((0, 0, 0, 0, (1,))), True)
        self.assertIs(shows((0, 0, 0, 0, (16,))), False)
        self.assertIs(shows((0, 0, 0, 1, (17,))), True)
        self.assertIs(shows((0, 1, 0, 1, (17,))), False)
        self.assertIs(shows((0, 1, 0, 1, (17,)), delays=(2,)), True)
        self.assertIs(shows((0, 2, 0, 1, (17,)), delays=(2,)), False)
        self.assertIs(shows((0, 0, 0, 1, (16,)), delays=(9,)), False)

    def test_rows_of_other_kinds(self):
        closed = repaired(COPIES, ONE)
        for row in [*any_values(), [0, 0, ()], (0, 0, []), (0, 0), (0, 0, 0, ()), (1, 0, ()), (0, 2, ()), (-1, 0, ()),
                    (0, -1, ()), (False, 0, ()), (0, False, ()), (0, 0, (True,)), (0, 1, [1]), (0, 1, (0,)), (0, 1, (16,)),
                    (0, 1, (1, 2)), (0, 1, (3, 1)), (0, 1, (1, 1)), (0, 1, ("1",)), (0, 1, (1, None)), (0, 0, 0, 1, (32,)),
                    (0, 0, 0, 1, (1, 16)), (0, 0, 0, 1, (17, 1)), (0, True, 0, 1, (17,)), (0, -1, 0, 1, (17,)),
                    (1, 0, 0, 1, (17,)), (None, 0, 0, 1, (17,)), (0, None, 0, 1, (17,)), (0, 0, 0, 1, (17,), 0),
                    (0, 0, 1, 1, (17,)), (0, 0, 0, 2, (17,)), (0, 0, 0, 1, 17), ([0], 0, ()), ({}, {}, {}),
                    (0, 10 ** 40, 0, 1, (17,)), (0.0, 0, ())]:
            self.assertIs(shows_repaired(COPIES, ONE, Closed(closed.delays, closed.table + (row,))), False, row)

    def test_mute_phases_have_no_rows(self):
        rule = Burst(1, 2)
        closed = repaired(PAIRS, rule)
        self.assertEqual(closed.delays, (2, 1, None))
        self.assertIs(shows_repaired(PAIRS, rule, Closed((2, 1, 0), closed.table)), False)
        self.assertIs(shows_repaired(PAIRS, rule, Closed((2, None, None), closed.table)), False)
        self.assertIs(shows_repaired(PAIRS, rule, Closed((2, 1), closed.table)), False)
        self.assertIs(shows_repaired(PAIRS, rule, Closed((2, 1, None, None), closed.table)), False)
        self.assertIs(shows_repaired(PAIRS, rule, Closed(closed.delays, closed.table + ((2, 0, 0, 0, (1,)),))), False)
        self.assertIs(shows_repaired(PAIRS, rule, Closed(closed.delays, closed.table + ((1, 0, 0, 0, (1,)),))), True)

    def test_tables_of_20000_rows_and_more(self):
        closed = repaired(COPIES, ONE)
        for many, is_right in ((20000, True), (20001, False), (30000, False)):
            table = closed.table + (closed.table[0],) * (many - len(closed.table))
            self.assertEqual(len(table), many)
            self.assertIs(shows_repaired(COPIES, ONE, Closed((1,), table)), is_right)

    def test_delays_of_other_kinds(self):
        closed = repaired(COPIES, ONE)
        for delays in [*any_values(), 1, "1", (True,), (-1,), ("1",), ((1,),), [1], (None,), (1, 1)]:
            self.assertIs(shows_repaired(COPIES, ONE, Closed(delays, closed.table)), delays == (1,) and delays[0] is not True)
        for table in any_values():
            self.assertIs(shows_repaired(COPIES, ONE, Closed((1,), table)), False)

    def test_no_closed_where_a_row_need_never_be_known(self):
        rows = ((0, 0, ()),)
        self.assertIs(shows_repaired(Plan.plain(), Total(1), Closed((10 ** 9,), rows)), False)
        self.assertIs(shows_repaired(Plan.plain(), Total(0), Closed((0,), rows)), True)
        self.assertIs(shows_repaired(Plan.plain(), Total(0), Closed((7,), rows)), True)


class ShowsNeverTest(Case):

    def test_losses_changed_left_out_put_in(self):
        chance = dealer(6)
        for plan, rule in dealt_lines(7, 80):
            never = repaired(plan, rule)
            if never:
                continue
            for _ in range(25):
                parts = [never.begin, never.before, never.lost, never.again]
                which = chance.choice((0, 1, 2, 3))
                if which == 0:
                    parts[0] = chance.randrange(len(plan))
                else:
                    at = chance.randint(0, len(parts[which]))
                    parts[which] = parts[which][:at] + chance.choice(("", "x", ".")) + parts[which][at + chance.randrange(2):]
                self.assertIs(shows_repaired(plan, rule, Never(*parts)), self.leads_round(plan, rule, *parts), parts)

    def leads_round(self, plan, rule, begin, before, lost, again):
        """Whether losses of a Never are let for ever, and its row unknown: so many rounds tell it for a small plan."""
        many = len(before)
        if not lost or not again or plan[begin + many].mute or len(again) % len(plan):
            return False
        losses = before + lost + again
        if not rule.lets(losses) or known_at(plan, begin, losses)[many] is not None:
            return False
        return self.space(plan, rule, begin, before, lost) == self.space(plan, rule, begin, before, lost + again)

    def space(self, plan, rule, begin, before, lost):
        """The place and the differences of the last four rows and of the own one, by all differences of all rows."""
        losses = before + lost
        place = 0
        for slot in losses:
            place = rule.places[place][0 if slot == "." else 1]
        left = [0]
        for at, slot in enumerate(losses):
            phase = plan[begin + at]
            left += [] if phase.mute else [one | 1 << at for one in left]
            if slot == ".":
                masks = [sum([1 << at - age for age in ages if age <= at]) for ages in phase.sums]
                masks += [] if phase.mute else [1 << at]
                left = [one for one in left if not [1 for mask in masks if bin(one & mask).count("1") % 2]]
        many = len(losses)
        bits = [many - 1 - step for step in range(4) if many - 1 - step >= 0] + [len(before)]
        return place, {tuple([one >> bit & 1 for bit in bits]) for one in left}

    def test_told_by_hand(self):
        plain, rule = Plan.plain(), Total(1)
        for value, is_right in (
                (Never(0, "", "x....", "."), True), (Never(0, "", "x", "."), False), (Never(0, "", "x...", "."), False),
                (Never(0, "..", "x....", "..."), True), (Never(0, "", "x....", ""), False), (Never(0, "", "", "."), False),
                (Never(0, "", ".x...", "."), False), (Never(0, "x", "x....", "."), False), (Never(1, "", "x....", "."), False),
                (Never(0, "", "x....", "x"), False), (Never(0, "." * 3000, "x....", "." * 900), True)):
            self.assertIs(shows_repaired(plain, rule, value), is_right)
        self.assertIs(shows_repaired(COPIES, ONE, Never(0, "", "x.", ".")), False)
        self.assertIs(shows_repaired(COPIES, TWO, Never(0, "", "xx....", ".")), True)
        self.assertIs(shows_repaired(COPIES, TWO, Never(0, "x", "x....", ".")), False)
        self.assertIs(shows_repaired(PAIRS, ONE, Never(2, "", "x.", "...")), False)

    def test_values_of_all_kinds(self):
        for value in any_values():
            self.assertIs(shows_repaired(Plan.plain(), Total(1), value), False)
            for at in range(4):
                parts = [0, "", "x....", "."]
                parts[at] = value
                self.assertIs(shows_repaired(Plan.plain(), Total(1), Never(*parts)), False)


class ShowsWorstTest(Case):

    def test_what_is_told_and_one_more(self):
        for plan, rule, closed in [*closed_lines(8, 60), (DENSE, PLACES, repaired(DENSE, PLACES))]:
            for phase, delay in enumerate(closed.delays):
                if delay is None:
                    self.refused(("NoPhase", phase), shows_worst, plan, rule, phase, 0, None)
                    continue
                worst = worst_losses(plan, rule, phase)
                self.assertIs(shows_worst(plan, rule, phase, delay, worst), True)
                self.assertIs(shows_worst(plan, rule, phase, delay + 1, worst), False)
                for more in (".", "x"):
                    longer = Worst(worst.begin, worst.before, worst.losses + more)
                    self.assertIs(shows_worst(plan, rule, phase, delay, longer), False)
                    self.assertIs(shows_worst(plan, rule, phase, delay + 1, longer), False)
                if delay > 0:
                    shorter = Worst(worst.begin, worst.before, worst.losses[:-1])
                    self.assertIs(shows_worst(plan, rule, phase, delay - 1, shorter), True)
                    self.assertIs(shows_worst(plan, rule, phase, delay, shorter), False)

    def test_changed_losses(self):
        chance = dealer(9)
        for plan, rule in [*dealt_lines(10, 60), (DENSE, PLACES)]:
            phases = [phase for phase in range(len(plan)) if not plan[phase].mute]
            for _ in range(25):
                begin, phase = chance.randrange(len(plan)), chance.choice(phases)
                before = "".join([chance.choice("..x") for _ in range(chance.randrange(6))])
                losses = "".join([chance.choice(".xx") for _ in range(chance.randrange(5))])
                many = chance.choice((len(losses), len(losses), len(losses), 1))
                own = len(before)
                is_right = rule.lets(before + losses) and (begin + own) % len(plan) == phase and many == len(losses) and (
                    losses == "" or known_at(plan, begin, before + losses)[own] is None)
                self.assertIs(shows_worst(plan, rule, phase, many, Worst(begin, before, losses)), is_right)

    def test_none_are_asked_for(self):
        self.assertIs(shows_worst(COPIES, ONE, 0, 0, Worst(0, "", "")), True)
        self.assertIs(shows_worst(COPIES, ONE, 0, 0, Worst(0, ".x.", "")), True)
        self.assertIs(shows_worst(COPIES, ONE, 0, 0, Worst(0, "xx", "")), False)
        self.assertIs(shows_worst(COPIES, ONE, 0, 0, Worst(0, "", "x")), False)
        self.assertIs(shows_worst(PAIRS, ONE, 1, 0, Worst(0, "", "")), False)
        self.assertIs(shows_worst(PAIRS, ONE, 1, 0, Worst(0, ".", "")), True)
        # Also where rows need never be known: no Nothing is raised.
        self.assertIs(shows_worst(Plan.plain(), Total(1), 0, 400, Worst(0, "...", "x" + "." * 399)), True)

    def test_values_of_all_kinds(self):
        for value in any_values():
            self.assertIs(shows_worst(COPIES, ONE, 0, 1, value), False)
            for parts in ([value, "", "x"], [0, value, "x"], [0, "", value]):
                self.assertIs(shows_worst(COPIES, ONE, 0, 1, Worst(*parts)), False)
        for parts in ((True, "", "x"), (False, "", "x"), (1, "", "x"), (1, ".", "x"), (-1, ".", "x"), (0, "", ["x"]), (0, (), "x")):
            self.assertIs(shows_worst(COPIES, ONE, 0, 1, Worst(*parts)), False)


class RefusedTest(Case):

    def test_in_order(self):
        for value in any_values():
            self.refused(("BadPlan", "plan"), shows_repaired, value, value, None)
            self.refused(("BadRule", "rule"), shows_repaired, COPIES, value, None)
            self.refused(("BadPlan", "plan"), shows_worst, value, value, None, None, None)
            self.refused(("BadRule", "rule"), shows_worst, COPIES, value, None, None, None)
            self.refused(("NoPhase", value), shows_worst, PAIRS, ONE, value, None, None)
            self.refused(("BadNumber", value), shows_worst, PAIRS, ONE, 1, value, None)
        self.refused(("NoPhase", 2), shows_worst, PAIRS, ONE, 2, -1, None)
        self.refused(("NoPhase", 3), shows_worst, PAIRS, ONE, 3, -1, None)
        self.refused(("BadNumber", 401), shows_worst, PAIRS, ONE, 0, many=401, value=None)
        self.assertIs(shows_worst(plan=PAIRS, rule=ONE, phase=0, many=400, value=None), False)
        self.assertIs(shows_repaired(plan=PAIRS, rule=ONE, value=None), False)
