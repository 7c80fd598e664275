"""Longest frames: against all letters of short lengths, and far off."""

from itertools import product
from unittest.mock import patch

from layerpost.frames import FrameRule
from layerpost.growths import Growth
from layerpost.lengths import are_lasting, is_lasting
from layerpost.longest import Longest, longest_frames, longest_letter, longest_paper, most_cells
from layerpost.look_longest import shows_longest
from tests.helpers import Case, any_values, dealer, error_of, some_signs
from tests.test_frames import HDLC, LOOP, SHORT, dealt_rule

WIDE = FrameRule("11001101", ("01110101", "0"), ("1001110", "1"), ("1100110", "0"))


def dealt_rules(seed, many):
    """Rules by chance in whose bodies no flag stands and no puts are without an end."""
    chance = dealer(seed)
    rules = []
    while len(rules) < many:
        rule = dealt_rule(chance)
        if error_of(rule.all_states) is None:
            rules.append(rule)
    return rules


def most_signs(rule, begin, many):
    """The signs of the longest frame of all letters that are begin and so many signs more."""
    return max([len(rule.frame(begin + "".join(signs))) for signs in product("01", repeat=many)])


def moves_of(rule):
    """From each state the pairs of the next state and how many signs are sent."""
    return {state: [rule.next_state(state, sign) for sign in "01"] for state in rule.all_states()}


class LongestTest(Case):

    def test_against_all_letters(self):
        chance = dealer(1)
        for rule in dealt_rules(2, 40):
            for begin in ("", some_signs(chance, 1, 4)):
                growth = longest_frames(rule, begin)
                for many in range(8):
                    most = most_signs(rule, begin, many)
                    self.assertEqual(growth(many), most)
                    letter = longest_letter(rule, many, begin)
                    self.assertEqual((letter[:len(begin)], len(letter)), (begin, len(begin) + many))
                    self.assertEqual(len(rule.frame(letter)), most)
                    for size in (1, 3, 32):
                        self.assertEqual(most_cells(rule, size, begin)(many), -(-most // size))

    def test_great_lengths(self):
        # From behind the first sign each sign of the letter brings a put; five signs bring one in the other rule.
        self.assertEqual(longest_frames(SHORT)(10 ** 40), 3 + 2 * 10 ** 40 - 1)
        self.assertEqual(longest_frames(HDLC)(10 ** 30), longest_frames(HDLC)(10 ** 30 - 5) + 6)
        self.assertEqual(most_cells(SHORT, 32)(10 ** 40), -(-(2 * 10 ** 40 + 2) // 32))
        for rule in (*dealt_rules(3, 10), WIDE):
            growth = longest_frames(rule)
            for length in (150, 200):
                self.assertEqual(growth(length), len(rule.frame(longest_letter(rule, length))))
            # Of the parts of a long letter none is longer than the longest of its length.
            self.assertLessEqual(growth(400), 2 * growth(200) + 16)

    def test_by_steps_from_each_state(self):
        for rule in (*dealt_rules(4, 20), HDLC, WIDE):
            states = rule.all_states()
            moves = moves_of(rule)
            most = {state: [0] for state in states}
            for at in range(300):
                for state in states:
                    most[state].append(max([sent + most[after][at] for after, sent in moves[state]]))
            rows = longest_paper(rule).rows
            self.assertEqual(set(rows), set(states))
            for state in states:
                self.assertEqual(list(rows[state].first(301)), most[state])
                self.assertEqual(longest_frames(rule).first(301), tuple([n + len(rule.flag) for n in most[""]]))

    def test_many_cells_never_fall(self):
        for rule in dealt_rules(5, 20):
            for size in (1, 4, 7):
                cells = most_cells(rule, size)
                self.assertTrue(cells.is_rising)
                self.assertEqual(cells, Growth.steps(size).after(longest_frames(rule)))

    def test_letters_of_all_lengths(self):
        self.assertEqual(len(longest_letter(SHORT, 200)), 200)
        self.assertEqual(longest_letter(SHORT, 0, "0110"), "0110")
        begin = "1" * 200
        self.assertEqual(longest_letter(SHORT, 0, begin), begin)
        self.assertEqual(longest_frames(SHORT, begin)(10 ** 20), 203 + 2 * 10 ** 20 - 1)
        self.assertEqual(longest_letter(rule=SHORT, length=3, begin="0")[0], "0")


class LongestRefusedTest(Case):

    def test_rules_first(self):
        for value in any_values():
            if not isinstance(value, FrameRule):
                self.refused(("BadRule", "rule"), longest_frames, value, None)
                self.refused(("BadRule", "rule"), longest_letter, value, None, None)
                self.refused(("BadRule", "rule"), most_cells, value, None, None)
                self.refused(("BadRule", "rule"), longest_paper, value)
                self.refused(("BadRule", "rule"), shows_longest, value, None)

    def test_then_sizes_begins_lengths(self):
        for value in [*any_values(), 0, 33]:
            self.refused(("BadNumber", value), most_cells, LOOP, value, None)
        for value in [*any_values(), "2", "1" * 201]:
            self.refused(("BadLetter", value), most_cells, LOOP, 1, value)
            self.refused(("BadLetter", value), longest_frames, LOOP, value)
            self.refused(("BadLetter", value), longest_letter, LOOP, -1, value)
        for value in [*any_values(), 201]:
            self.refused(("BadNumber", value), longest_letter, LOOP, value)
        self.refused(("BadNumber", 200), longest_letter, SHORT, 200, "0")
        self.refused(("BadNumber", 1), longest_letter, LOOP, 1, "1" * 200)

    def test_then_clashes(self):
        for rule, part in ((LOOP, "puts"), (FrameRule("11"), "flag"), (FrameRule("11", ("0", "0")), "puts")):
            for work in (lambda: longest_frames(rule, "1"), lambda: longest_letter(rule, 1), lambda: longest_paper(rule),
                         lambda: most_cells(rule, 1), lambda: shows_longest(rule, None)):
                self.refused(("Clashing", part), work)
        # A flag with a border clashes with nothing here.
        self.assertEqual(longest_frames(FrameRule("111", ("11", "0"))).first(4), (3, 4, 6, 7))


class ForEverTest(Case):

    def test_what_fits_the_first_lengths_is_not_taken(self):
        rule = FrameRule("10001", ("1000", "0"), ("1001100", "1"))
        wanted = longest_paper(rule)
        self.assertEqual(str(wanted.rows[""]), "0 1 2 3 5 6 7 8 10 11 12 13 15 16 then 1 1 2")
        for probes in (((4, 4), (400, 60)), ((1, 1), (2, 2), (24, 12)), ((400, 60),)):
            with patch("layerpost.longest.PROBES", probes):
                self.assertEqual(longest_paper(rule), wanted)

    def test_too_many_lengths(self):
        # No rule that was found has so many told values, so fewer are let here.
        for probes in (((1, 1),), ((4, 4),), ((13, 3),)):
            with patch("layerpost.longest.PROBES", probes):
                rule = FrameRule("10001", ("1000", "0"), ("1001100", "1"))
                for work in (lambda: longest_paper(rule), lambda: longest_frames(rule), lambda: longest_letter(rule, 3),
                             lambda: most_cells(rule, 3)):
                    self.refused(("TooMany", "lengths", 400), work)
                self.assertIs(shows_longest(rule, None), False)
        with patch("layerpost.longest.PROBES", ((14, 3),)):
            self.assertEqual(len(longest_paper(rule).rows[""].told), 14)

    def test_a_row_is_its_greatest_branch_for_ever(self):
        two = Growth((0, 2), (2,))
        for row, branches, wanted in (
                (two, ((2, two), (2, two)), True), (two, ((2, two), (2, Growth.constant(0))), True),
                (two, ((2, Growth.constant(0)), (2, two)), True), (two, ((1, two), (1, two)), False),
                # A branch that is below now, and comes above far off.
                (two, ((2, two), (0, Growth((0,), [3]))), False),
                (Growth((0, 1), (1,)), ((1, Growth.ramp(1)), (1, Growth([0] * 1000, (2,)))), False),
                # A branch of a less rate that is the greatest for all told values and one round.
                (Growth((0, 9), (2,)), ((9, Growth((0,), (2,))), (9, Growth((0,), (1,)))), True),
                (Growth((0, 30), (2,)), ((30, Growth((0,), (1,))), (9, Growth((0,), (2,)))), False),
                (Growth((0, 2), (1,)), ((2, Growth((0,), (1, 0))), (2, Growth((0,), (0, 1)))), False),
                (Growth((0, 2, 3, 3), (1, 1, 0, 2)), ((2, Growth((0,), (1, 0, 1, 2))), (0, Growth((0,), (1,)))), False),
                (Growth((0, 2), (1, 0)), ((2, Growth((0,), (1, 0))), (2, Growth((0,), (0, 1)))), True),
                (Growth((0, 2), (1, 0)), ((2, Growth((0,), (0, 1))), (2, Growth((0,), (0, 1)))), False),
                # Equal rates with rounds of two and three gains: each length of a round of six is looked at.
                (Growth((0, 1), (2, 0)), ((1, Growth((0,), (2, 0))), (0, Growth((0,), (0, 0, 3)))), True),
                (Growth((0, 1), (2, 0)), ((1, Growth((0,), (2, 0))), (2, Growth((0,), (0, 0, 3)))), False)):
            self.assertIs(is_lasting(row, branches), wanted, (str(row), [str(growth) for _, growth in branches]))

    def test_all_rows_begin_at_0(self):
        moves = {"": (("", "0"), ("", "10"))}
        self.assertIs(are_lasting(moves, {"": Growth.ramp(2)}), True)
        self.assertIs(are_lasting(moves, {"": Growth.ramp(2, 1)}), False)
        self.assertIs(are_lasting(moves, {"": Growth.ramp(1)}), False)
        self.assertIs(are_lasting(moves, {"": Growth((0, 2), (3,))}), False)


class ShowsLongestTest(Case):

    def test_right_papers(self):
        for rule in (*dealt_rules(6, 30), HDLC, SHORT, WIDE):
            paper = longest_paper(rule)
            self.assertIs(shows_longest(rule, paper), True)
            again = Longest({state: Growth(row.first(900), [row(n) - row(n - 1) for n in range(900, 900 + 720)])
                             for state, row in list(paper.rows.items())[::-1]})
            self.assertEqual(again, paper)
            self.assertIs(shows_longest(rule=rule, value=again), True)

    def test_one_number_one_state_one_growth_otherwise(self):
        chance = dealer(7)
        for rule in (*dealt_rules(8, 8), SHORT):
            paper = longest_paper(rule)
            for state in paper.rows:
                row = paper.rows[state]
                others = [row + Growth.constant(1), 2 * row, row.shifted(1), row + Growth.ramp(1), Growth.constant(0)]
                for at in (0, 1, 300, chance.randrange(1700)):
                    values = list(row.first(1800))
                    values[at] += 1
                    others.append(Growth(values, row.gains if at == 0 else [5]))
                # Right to the number 1,900, then one more or less for ever.
                values = list(row.first(1900))
                others.append(Growth(values, [1, *([0] * 1999)]))
                for other in others:
                    rows = {**paper.rows, state: other}
                    self.assertIs(shows_longest(rule, Longest(rows)), rows == paper.rows)
                rows = {name: paper.rows[name] for name in paper.rows if name != state}
                self.assertIs(shows_longest(rule, Longest(rows)), False)
                self.assertIs(shows_longest(rule, Longest({**rows, state + "x": row})), False)
                self.assertIs(shows_longest(rule, Longest({**paper.rows, state + "x": row})), False)

    def test_far_off_growths(self):
        row = longest_paper(SHORT).rows["0"]
        self.assertEqual(str(row), "0 then 2")
        for told, gains in (([2 * n for n in range(2000)], [2] * 1999 + [3]), ([2 * n for n in range(2000)], [1]),
                            ([0], [2] * 1999 + [1]), ([0], [2] * 1998 + [1, 3])):
            self.assertIs(shows_longest(SHORT, Longest({"": Growth((0, 1), (2,)), "0": Growth(told, gains)})), False)
        self.assertIs(shows_longest(SHORT, Longest({"": Growth((0, 1), (2,)), "0": Growth((0,), (2,))})), True)

    def test_all_states_wrong_alike(self):
        # Each number is one of a solution that begins at 1 instead of 0.
        rows = {state: row + Growth.constant(1) for state, row in longest_paper(SHORT).rows.items()}
        self.assertIs(shows_longest(SHORT, Longest(rows)), False)

    def test_values_of_all_kinds(self):
        rows = longest_paper(SHORT).rows
        for value in [*any_values(), rows, Longest(None), Longest([rows]), Longest(list(rows.items())), Longest(()),
                      Longest({}), Longest({"": rows[""], "0": str(rows["0"])}), Longest({"": None, "0": None}),
                      Longest({"": rows[""], "0": True}), Longest({"": rows[""], 0: rows["0"]})]:
            self.assertIs(shows_longest(SHORT, value), False)

    def test_papers(self):
        self.assertEqual(Longest({"": 1}), Longest(rows={"": 1}))
        self.assertNotEqual(Longest({"": 1}), Longest({"": 2}))
        self.assertNotEqual(Longest({}), {})
        self.assertIs(bool(Longest({})), True)
        rows = longest_paper(SHORT).rows
        rows.clear()
        self.assertEqual(len(longest_paper(SHORT).rows), 2)
