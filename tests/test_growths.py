"""Growths: made, asked, reckoned with, refused, read."""

import copy
from math import gcd

from layerpost.growths import Growth
from tests.helpers import Case, any_values, dealer, error_of

FAR = 10 ** 40


def slow_value(told, gains, n):
    """The value at n, step by step."""
    value = told[min(n, len(told) - 1)]
    for step in range(n - len(told) + 1):
        value += gains[step % len(gains)]
    return value


def quick_values(told, gains, many):
    """The first values, each from the one ahead of it."""
    values = list(told[:many])
    while len(values) < many:
        values.append(values[-1] + gains[(len(values) - len(told)) % len(gains)])
    return values


def slow_form(told, gains):
    """The normal form: of all numbers of gains and told values, few first, those that tell the same."""
    many = len(told) + 4 * len(gains) + 4
    values = quick_values(told, gains, many)
    for few in range(1, len(gains) + 1):
        for least in range(1, len(told) + 1):
            steps = [values[at] - values[at - 1] for at in range(least, least + few)]
            if quick_values(values[:least], steps, many) == values:
                return tuple(values[:least]), tuple(steps)
    raise AssertionError("there is a normal form")


def dealt(chance, most_told=8, most_gains=6, most=9):
    """A told value list and a gain list by chance."""
    told = [chance.randrange(most) for _ in range(chance.randint(1, most_told))]
    return told, [chance.choice((0, 0, 1, 1, 2, 3, 5)) for _ in range(chance.randint(1, most_gains))]


class MadeTest(Case):

    def test_normal_form(self):
        chance = dealer(1)
        for _ in range(400):
            told, gains = dealt(chance, 6, 6, 4)
            growth = Growth(told, gains)
            self.assertEqual((growth.told, growth.gains), slow_form(told, gains))

    def test_normal_form_of_repeated_gains(self):
        for told, gains, text in (
                ((0, 3, 6), [3, 3], "0 then 3"), ([5], (0,), "5 then 0"), ([5, 5, 5], (0, 0), "5 then 0"),
                ((0, 1, 1), (1, 0), "0 then 1 0"), ((0, 1, 3, 4), (2, 1, 2, 1), "0 then 1 2"),
                ((1, 2, 4, 4, 5), (2, 0, 1), "1 then 1 2 0"), ((7, 2), (0,), "7 2 then 0"),
                ((2, 0, 0, 1), (0, 1, 0, 1, 0), "2 0 0 1 then 0 1 0 1 0")):
            growth = Growth(told, gains)
            self.assertEqual(str(growth), text)
            self.assertEqual((type(growth.told), type(growth.gains)), (tuple, tuple))

    def test_equal_is_the_same_value_at_each_number(self):
        chance = dealer(2)
        for _ in range(300):
            one, other = dealt(chance, 3, 4, 2), dealt(chance, 3, 4, 2)
            same = quick_values(*one, 40) == quick_values(*other, 40)
            self.assertIs(Growth(*one) == Growth(*other), same)
            self.assertIs(Growth(*one) != Growth(*other), not same)
        for value in any_values():
            self.assertFalse(Growth((3,)) == value)

    def test_values(self):
        chance = dealer(3)
        for _ in range(100):
            told, gains = dealt(chance)
            growth = Growth(told, gains)
            for n in range(30):
                self.assertEqual(growth(n), slow_value(told, gains, n))
            for many in (0, 1, 2, 29):
                self.assertEqual(growth.first(many), tuple(quick_values(told, gains, many)))

    def test_values_far_off(self):
        growth = Growth((9, 2, 4), (1, 0, 5))
        for rounds in (1, 10 ** 9, 10 ** 39):
            self.assertEqual([growth(2 + 3 * rounds + step) for step in (0, 1, 2)],
                             [4 + 6 * rounds, 5 + 6 * rounds, 5 + 6 * rounds])
        self.assertEqual(Growth.ramp(7, 2)(n=FAR), 7 * FAR + 2)
        self.assertEqual(len(growth.first(2000)), 2000)

    def test_named_growths(self):
        self.assertEqual(Growth.MOST, 2000)
        self.assertEqual([Growth.constant(4)(n) for n in (0, 9)], [4, 4])
        self.assertEqual([Growth.ramp(2, begin=5)(n) for n in (0, 1, 9)], [5, 7, 23])
        self.assertEqual(Growth.ramp(gain=0, begin=3), Growth.constant(3))
        for many in (1, 2, 3, 7, 2000):
            steps = Growth.steps(many)
            self.assertEqual(steps.first(30), tuple([-(-n // many) for n in range(30)]))
            self.assertEqual(steps(FAR), -(-FAR // many))
            self.assertEqual(len(steps.gains), many)

    def test_summed(self):
        chance = dealer(4)
        for many in range(6):
            parts = [dealt(chance) for _ in range(many)]
            total = Growth.summed(*[Growth(*part) for part in parts])
            lines = [quick_values(*part, 60) for part in parts]
            self.assertEqual(list(total.first(60)), [sum(line[n] for line in lines) for n in range(60)])
        self.assertEqual(str(Growth.summed()), "0 then 0")

    def test_rising_and_rate(self):
        for told, gains, rising, rate in (
                ((0,), (1, 0, 0, 0), True, (1, 4)), ((3, 1), (0,), False, (0, 1)), ((1, 1, 2), (2, 4), True, (3, 1)),
                ((5, 6, 5, 9), (3,), False, (3, 1)), ((5,), (2, 2, 1, 1), True, (3, 2)), ((0, 0), (0, 6, 0), True, (2, 1))):
            growth = Growth(told, gains)
            self.assertIs(growth.is_rising, rising)
            self.assertEqual(growth.rate, rate)

    def test_what_is_passed_stays_and_is_not_kept(self):
        told, gains = [4, 1, 2, 3], [1, 1]
        growth = Growth(told, gains)
        self.assertEqual((told, gains), ([4, 1, 2, 3], [1, 1]))
        told[0], gains[0] = 99, 99
        told.append(5)
        self.assertEqual(str(growth), "4 1 then 1")

    def test_the_greatest_sizes(self):
        told = [n * n for n in range(2000)]
        gains = [1] * 1999 + [2]
        growth = Growth(tuple(told), gains)
        self.assertEqual((len(growth.told), len(growth.gains)), (2000, 2000))
        self.assertEqual(growth(1999 + 2000 * 10 ** 30), 1999 ** 2 + 2001 * 10 ** 30)
        self.assertEqual(Growth.read(str(growth)), growth)
        self.assertEqual(Growth([0] * 2000, [0] * 2000), Growth.constant(0))
        self.assertEqual(error_of(Growth, [0] * 2001), ("BadGrowth", "told"))
        self.assertEqual(error_of(Growth, [0], [0] * 2001), ("BadGrowth", "gains"))


class RefusedTest(Case):

    def test_told_and_gains(self):
        for value in any_values():
            if value not in ((1,), [0]):
                self.refused(("BadGrowth", "told"), Growth, value)
                self.refused(("BadGrowth", "told"), Growth, value, value)
                self.refused(("BadGrowth", "gains"), Growth, (1,), value)
        for value in ([-1], [1, True], (0, None), [[1]], [0, "1"], (0, 1, -5), [Growth((0,))], {0: 1}, "12"):
            self.refused(("BadGrowth", "told"), Growth, told=value, gains=None)
            self.refused(("BadGrowth", "gains"), Growth, told=[3], gains=value)

    def test_numbers(self):
        growth = Growth((1, 2), (3,))
        for value in any_values():
            self.refused(("BadNumber", value), growth, value)
            self.refused(("BadNumber", value), growth.first, value)
            self.refused(("BadNumber", value), growth.shifted, value)
            self.refused(("BadNumber", value), growth.first_over, value)
            self.refused(("BadNumber", value), lambda: growth * value)
            factor = growth if isinstance(value, Growth) else value
            self.refused(("BadNumber", factor), lambda: value * growth)
        for value in (-1, 2001):
            self.refused(("BadNumber", value), growth.first, n=value)
            self.refused(("BadNumber", value), growth.shifted, k=value)
        self.refused(("BadNumber", 10 ** 6 + 1), lambda: growth * (10 ** 6 + 1))
        self.refused(("BadNumber", 10 ** 6 + 1), lambda: (10 ** 6 + 1) * growth)
        self.assertEqual((10 ** 6 * growth)(1), 2 * 10 ** 6)

    def test_parts_of_named_growths(self):
        for value in any_values():
            if value != FAR + 1 or isinstance(value, bool):
                self.refused(("BadNumber", value), Growth.constant, value)
                self.refused(("BadNumber", value), Growth.ramp, value, -1)
                self.refused(("BadNumber", value), Growth.ramp, 0, value)
            self.refused(("BadNumber", value), Growth.steps, value)
        for value in (0, 2001):
            self.refused(("BadNumber", value), Growth.steps, many=value)
        self.assertEqual(Growth.constant(value=FAR * FAR)(5), FAR * FAR)

    def test_others(self):
        growth = Growth((1, 2), (3,))
        for value in any_values():
            if isinstance(value, Growth):
                continue
            for work in (lambda: growth + value, lambda: growth | value, lambda: growth & value,
                         lambda: growth.after(value), lambda: growth.first_above(value), lambda: growth.at_most(value)):
                self.refused(("BadGrowth", "other"), work)
            self.refused(("BadGrowth", 1), Growth.summed, growth, value, None)
            self.refused(("BadGrowth", 0), Growth.summed, value, growth)

    def test_too_many_gains(self):
        one, other = Growth((0,), [1] + [0] * 39), Growth((0,), [1] + [0] * 48)
        fit = Growth((0,), [1] + [0] * 49)
        wide = Growth.steps(2000)
        self.assertEqual(len((one + fit).gains), 200)
        self.assertEqual(len((wide + one).gains), 2000)
        self.assertEqual(len((one + other).gains), 1960)
        for work in (lambda: wide + Growth.steps(3), lambda: wide | Growth.steps(3), lambda: wide & Growth.steps(3),
                     lambda: wide.first_above(Growth.steps(3)), lambda: wide.at_most(Growth.steps(3)),
                     lambda: Growth.summed(Growth.steps(3), wide), lambda: Growth.steps(667).after(Growth.steps(3))):
            self.refused(("TooMany", "gains", 2000), work)
        # The rounds of 2,001 and of 2,000 gains: 3 and 667, 16 and 125.
        self.refused(("TooMany", "gains", 2000), lambda: Growth.steps(3) + Growth.steps(667))
        self.assertEqual(len((Growth.steps(16) + Growth.steps(125)).gains), 2000)
        # The error asks for the number of gains of both, not for that of the result.
        self.refused(("TooMany", "gains", 2000), lambda: (Growth.steps(3) | Growth.steps(667)) | Growth.constant(10))

    def test_the_first_error_of_a_sum_counts(self):
        wide = Growth.steps(2000)
        self.refused(("TooMany", "gains", 2000), Growth.summed, Growth.steps(3), wide)
        self.refused(("BadGrowth", 2), Growth.summed, Growth.steps(3), wide, 5)


class SumsTest(Case):

    def agree(self, growth, values):
        """A growth has these first values, and is in the normal form."""
        self.assertEqual(list(growth.first(len(values))), values)
        form = Growth(list(growth.told), list(growth.gains))
        self.assertEqual((form.told, form.gains), (growth.told, growth.gains))

    def test_against_values_number_by_number(self):
        chance = dealer(5)
        for _ in range(150):
            first, second = dealt(chance), dealt(chance)
            one, other = Growth(*first), Growth(*second)
            texts = (str(one), str(other))
            left, right = quick_values(*first, 700), quick_values(*second, 700)
            self.agree(one + other, [a + b for a, b in zip(left, right)])
            self.agree(one | other, [max(a, b) for a, b in zip(left, right)])
            self.agree(one & other, [min(a, b) for a, b in zip(left, right)])
            self.agree(one.after(other), [slow_value(*first, n) if n < 12 else one(n) for n in right])
            k = chance.randrange(20)
            self.agree(k * one, [k * a for a in left])
            self.assertEqual(one * k, k * one)
            self.agree(one.shifted(k), left[k:])
            above = [n for n in range(700) if left[n] > right[n]]
            self.assertEqual(one.first_above(other), above[0] if above else None)
            self.assertIs(one.at_most(other), not above)
            bound = chance.randrange(60)
            over = [n for n in range(700) if left[n] > bound]
            self.assertEqual(one.first_over(bound), over[0] if over else None)
            self.assertEqual((str(one), str(other)), texts)

    def test_about_the_last_crossing_and_far_off(self):
        chance = dealer(6)
        for _ in range(60):
            fast, slow = Growth(*dealt(chance)), Growth(*dealt(chance))
            top, bottom = fast.rate
            low, under = slow.rate
            if top * under == low * bottom:
                continue
            if top * under < low * bottom:
                fast, slow = slow, fast
            slow = slow + Growth.constant(chance.randrange(300))
            last = max([n for n in range(4000) if slow(n) > fast(n)], default=-1)
            if last > 1998:
                self.refused(("TooMany", "told", 2000), lambda: fast | slow)
                self.refused(("TooMany", "told", 2000), lambda: fast & slow)
                continue
            for growth, choose in ((fast | slow, max), (fast & slow, min), (slow | fast, max), (slow & fast, min)):
                for n in [*range(max(0, last - 30), last + 60), 10 ** 12, 10 ** 12 + 7, FAR]:
                    self.assertEqual(growth(n), choose(fast(n), slow(n)))

    def test_crossings_at_great_numbers(self):
        fast, slow = Growth.ramp(3, 1), Growth.ramp(2, 10 ** 20)
        self.assertEqual(fast.first_above(slow), 10 ** 20)
        self.assertIsNone(Growth.ramp(2, 5).first_above(Growth.ramp(2, 5)))
        self.assertEqual(Growth((0,), (0, 7)).first_above(Growth((10 ** 12,), (3,))), 2 * 10 ** 12 + 2)
        self.assertEqual(Growth((0,), (0, 7)).first_over(7 * 10 ** 30), 2 * 10 ** 30 + 2)
        self.assertEqual(Growth((0,), (0, 7)).first_over(7 * 10 ** 30 - 1), 2 * 10 ** 30)
        self.assertEqual(Growth((9, 3), (1,)).first_over(8), 0)
        self.assertIsNone(Growth((9, 3), (0,)).first_over(9))
        self.assertEqual(Growth((9, 3), (1,)).first_over(value=FAR), FAR - 1)

    def test_too_many_told_values(self):
        for begin in (1997, 1998, 1999):
            fast, slow = Growth.ramp(3), Growth.ramp(2, begin)
            # The last crossing is at begin - 1: the value behind it is told, too.
            self.assertEqual(len((fast | slow).told), begin + 1)
            self.assertEqual(len((slow & fast).told), begin + 1)
        for work in (lambda: Growth.ramp(3) | Growth.ramp(2, 2000), lambda: Growth.ramp(3) & Growth.ramp(2, 2000),
                     lambda: Growth.ramp(2, 10 ** 30) | Growth.ramp(3)):
            self.refused(("TooMany", "told", 2000), work)
        # Gains are asked first: 3 and 667 of them, and a crossing far off.
        self.refused(("TooMany", "gains", 2000), lambda: Growth.steps(3) | (Growth.constant(9999) + Growth.steps(667)))

    def test_a_peak_among_the_told_values_is_no_crossing_far_off(self):
        peak, ramp = Growth((0, 10 ** 9, 0)), Growth.ramp(1)
        self.assertEqual(str(peak | ramp), f"0 {10 ** 9} 2 then 1")
        self.assertEqual(str(peak & ramp), "0 1 0 then 0")
        self.assertEqual(str(ramp | peak), str(peak | ramp))

    def test_after_with_many_told_values(self):
        long = Growth([0, 1] * 1000, (2,))
        self.assertEqual((len(long.told), long.gains), (2000, (2,)))
        shift = long.after(Growth.ramp(1))
        self.assertEqual(shift, long)
        # At 1,999 other must have come to 1,999, the number of told values less 1.
        self.refused(("TooMany", "told", 2000), long.after, Growth((0, 0), (1,)))
        self.assertEqual(long.after(Growth((0, 2), (1,)))(1998), long(1999))
        self.assertEqual(long.after(Growth((1999, 5), (0,))).first(4), (1, 1, 1, 1))
        fall = Growth([9000] * 1999 + [3], (1,))
        self.refused(("TooMany", "told", 2000), Growth((1, 2, 3, 4, 9), (2,)).after, fall)
        self.assertEqual(Growth((1, 2, 3, 9), (2,)).after(fall)(1999), 9)

    def test_after_with_rounds_of_both(self):
        ten = Growth((0,), [1] + [0] * 9)
        self.assertEqual(len(ten.after(Growth.ramp(5)).gains), 2)
        # 30 gains with the sum 50 come round twice in 100: 60 gains.
        thirty = Growth((0,), [50] + [0] * 29)
        self.assertEqual(len(Growth.steps(100).after(thirty).gains), 60)
        self.assertEqual(len(ten.after(Growth.steps(200)).gains), 2000)
        self.refused(("TooMany", "gains", 2000), ten.after, Growth.steps(201))
        self.assertEqual(ten.after(Growth.constant(11)), Growth.constant(2))
        self.assertEqual(Growth.ramp(5).after(Growth.ramp(10 ** 40))(3), 15 * 10 ** 40)

    def test_shifted_far(self):
        growth = Growth((5, 1, 1, 4), (0, 2, 1))
        for k in (0, 1, 3, 4, 5, 6, 7, 1999, 2000):
            self.assertEqual([growth.shifted(k)(n) for n in range(12)], [growth(n + k) for n in range(12)])
        self.assertEqual(str(growth.shifted(k=3)), "4 then 0 2 1")

    def test_in_place_the_name_is_bound_to_the_result(self):
        one = first = Growth((0, 1), (2,))
        other = Growth.constant(3)
        one += other
        self.assertEqual((one, first), (first + other, Growth((0, 1), (2,))))
        one = first
        one |= other
        self.assertEqual((one, first), (first | other, Growth((0, 1), (2,))))
        one = first
        one &= other
        self.assertEqual(one, first & other)
        one = first
        one *= 4
        self.assertEqual((one, str(first)), (4 * first, "0 1 then 2"))

    def test_lowest_terms(self):
        chance = dealer(8)
        for _ in range(100):
            told, gains = dealt(chance)
            top, bottom = Growth(told, gains).rate
            self.assertEqual(top * len(gains), bottom * sum(gains))
            self.assertEqual(gcd(top, bottom), 1)

    def test_copies_stay_equal(self):
        growth = Growth((3, 1), (2, 5))
        self.assertEqual(copy.deepcopy(growth), growth)


class TextsTest(Case):

    def test_there_and_back(self):
        chance = dealer(7)
        for _ in range(200):
            growth = Growth(*dealt(chance))
            self.assertEqual(Growth.read(str(growth)), growth)
        for text in ("0 then 0", "5 1 then 2", "0 then 1 0 0 0", f"{FAR} then {FAR}"):
            self.assertEqual(str(Growth.read(text=text)), text)

    def test_words_that_cannot_stand(self):
        for text, word in (
                ("", 0), (" ", 0), ("then 1", 0), ("-1 then 1", 0), ("+1 then 1", 0), ("00 then 1", 0), ("01 then 1", 0),
                ("1_0 then 1", 0), ("x then", 0), ("1\n then 1", 0), ("\n", 0), ("1 x then 1", 1), ("1  then 1", 1),
                ("1 Then 1", 1), ("1", 1), ("1 2", 2), ("1 2 ", 2), ("1 then", 2), ("1 then ", 2), ("1 then x", 2),
                ("1 then then", 2), ("1 then 1 x", 3), ("1 then 1 ", 3), ("1 then 1 then", 3), ("1 then 0 1 -", 4),
                ("1 2 3 then 4 5 -0", 6), ("0 3 then 3", 0), ("0 then 3 3", 0), ("0 3 then 3 x", 4)):
            self.refused(("BadText", 0, word), Growth.read, text)

    def test_what_is_no_string(self):
        for value in any_values():
            self.refused(("BadText", 0, 0), Growth.read, value)

    def test_too_many_words(self):
        told = [str(n * n) for n in range(2000)]
        self.assertEqual(len(Growth.read(" ".join([*told, "then", "1"])).told), 2000)
        self.refused(("BadText", 0, 2000), Growth.read, " ".join([*told, "9", "then", "1"]))
        gains = ["1"] * 1999 + ["2"]
        self.assertEqual(len(Growth.read(" ".join(["0", "then", *gains])).gains), 2000)
        self.refused(("BadText", 0, 2002), Growth.read, " ".join(["0", "then", *gains, "1"]))
        self.refused(("BadText", 0, 2000), Growth.read, " ".join(told))
