"""Stacks compared: against a look at their hops, near and far."""

from math import lcm

from layerpost.compared import Better, Worse, better, from_on, order
from layerpost.frames import FrameRule
from layerpost.look_compared import shows_better
from layerpost.losses import Total
from layerpost.plans import Plan
from layerpost.rounds import Round
from tests.helpers import Case, any_values, dealer
from tests.test_bounds import FRAMES, LINES, RINGS
from tests.test_stacks import stack

FAR = (10 ** 4, 10 ** 4 + 3, 10 ** 9 + 7, 10 ** 30)


def dealt_stacks(seed, many):
    """Stacks near one another: one by chance, and others that differ in one or two parts."""
    chance = dealer(seed)
    for _ in range(many):
        plan, rule = chance.choice(LINES)
        one = stack(frames=chance.choice(FRAMES), size=chance.choice((1, 3, 4, 8)), plan=plan, rule=rule,
                    ring=Round.read(chance.choice(RINGS)), flow="x", travel=chance.randint(0, 30))
        other = one
        for _ in range(chance.randint(1, 2)):
            plan, rule = chance.choice(LINES)
            other = other.but(**chance.choice((
                {"size": chance.choice((1, 2, 3, 4, 5, 8, 16))}, {"travel": chance.randint(0, 30)},
                {"ring": Round.read(chance.choice(RINGS))}, {"plan": plan, "rule": rule}, {"rule": Total(0)},
                {"ring": one.ring << chance.randint(0, 3)}, {"frames": chance.choice(FRAMES)})))
        yield one, other


def later_at(one, other, most=240):
    """The lengths at which one is later."""
    left, right = one.hop.first(most + 1), other.hop.first(most + 1)
    return [length for length in range(most + 1) if left[length] > right[length]]


class BetterTest(Case):

    def test_against_a_look(self):
        seen, begins = set(), set()
        for pair in dealt_stacks(1, 150):
            for one, other in (pair, pair[::-1]):
                late, answer = later_at(one, other), better(one, other)
                if answer:
                    self.assertEqual(late, [])
                    begin = max(len(one.hop.told), len(other.hop.told))
                    self.assertEqual(answer, Better(begin, lcm(len(one.hop.gains), len(other.hop.gains))))
                    self.assertEqual([length for length in FAR if one.hop(length) > other.hop(length)], [])
                elif late:
                    self.assertEqual(answer, Worse(late[0]))
                else:
                    self.assertGreater(answer.length, 240)
                    self.assertGreater(one.hop(answer.length), other.hop(answer.length))
                    self.assertLessEqual(one.hop(answer.length - 1), other.hop(answer.length - 1))
                self.assertTrue(shows_better(one, other, answer))
                seen.add((type(answer), bool(late), late[:1] == [0]))
                begins.add(self.looked_at_from_on(one, other, late))
            self.looked_at_order(*pair)
        self.assertLessEqual({(Better, False, False), (Worse, True, True), (Worse, True, False)}, seen)
        self.assertEqual(begins, {(0, None), (0, False), (1, None), (-1, False), (-1, True)})

    def looked_at_from_on(self, one, other, late):
        """from_on is the least length behind all at which one is later."""
        begin = from_on(one, other)
        fast, slow = one.hop.rate, other.hop.rate
        lead = fast[0] * slow[1] - slow[0] * fast[1]
        sign = (lead > 0) - (lead < 0)
        if begin is None:
            self.assertTrue(late)
            self.assertGreaterEqual(lead, 0)
            self.assertGreater(late[-1], 200)
            return sign, None
        self.assertEqual([length for length in late if length >= begin], [])
        self.assertEqual([length for length in FAR if length >= begin and one.hop(length) > other.hop(length)], [])
        if begin == 0:
            self.assertTrue(better(one, other))
        else:
            self.assertGreater(one.hop(begin - 1), other.hop(begin - 1))
            self.assertEqual(begin - 1 in late, begin - 1 <= 240)
        return sign, begin > 0

    def looked_at_order(self, one, other):
        """order tells which of both is never later."""
        words = {(True, True): "alike", (True, False): "better", (False, True): "worse", (False, False): "apart"}
        self.assertEqual(order(one, other), words[bool(better(one, other)), bool(better(other, one))])
        turned = {"better": "worse", "worse": "better"}
        self.assertEqual(order(other, one), turned.get(order(one, other), order(one, other)))

    def test_orders_of_all_kinds(self):
        slow = stack()
        self.assertEqual([order(slow, other) for other in (slow, stack(ring=slow.ring << 1), slow.but(travel=3), slow.but(travel=1))],
                         ["alike", "alike", "better", "worse"])
        self.assertEqual(order(slow.but(size=8, travel=6), slow), "apart")
        self.assertEqual(order(other=slow, one=slow.but(flow="b")), "better")

    def test_far_off(self):
        # One rises faster, but begins so much earlier: the round of 24 with 12 slots, against one with 13 and a travel of 1,000.
        half = stack(frames=FrameRule.simple("01", "0"), size=1, plan=Plan.plain(), rule=Total(0), ring=Round("a", None), travel=0)
        more = half.but(ring=Round(*["a"] * 13, *[None] * 11), travel=1000)
        answer = better(half, more)
        self.assertGreater(answer.length, 3000)
        self.assertGreater(half.hop(answer.length), more.hop(answer.length))
        self.assertLessEqual(half.hop(answer.length - 1), more.hop(answer.length - 1))
        self.assertEqual(better(more, half), Worse(0))
        begin = from_on(more, half)
        self.assertGreater(begin, 3000)
        self.assertGreater(more.hop(begin - 1), half.hop(begin - 1))
        self.assertEqual([length for length in range(begin, begin + 600) if more.hop(length) > half.hop(length)], [])
        self.assertEqual((from_on(half, more), order(half, more)), (None, "apart"))
        for length in (answer.length, begin - 1, 10 ** 30):
            self.assertEqual(shows_better(half, more, Worse(length)), half.hop(length) > more.hop(length))
        self.assertTrue(shows_better(half, more, Worse(10 ** 30)))
        self.assertFalse(shows_better(half, more, Worse(0)))

    def test_both_rise_alike(self):
        # Always later at some lengths, though they rise alike.
        one, other = stack(size=4, rule=Total(0), plan=Plan.plain()), stack(size=8, rule=Total(0), plan=Plan.plain(), ring=Round("a", None, None, None, None, None))
        self.assertEqual(one.hop.rate, other.hop.rate)
        self.assertEqual((order(one, other), from_on(other, one), from_on(one, other)), ("better", None, 0))

    def test_later_at_first_alone(self):
        # The longer flag alone makes the first lengths later; behind them both rise alike.
        one = stack(frames=FrameRule.read("01011 : 0101 0"), size=1, plan=Plan.plain(), rule=Total(0), ring=Round("a"))
        for travel in (0, 9):
            other = one.but(frames=FrameRule.read("011 : 01 0"), travel=one.travel)
            self.assertEqual(one.hop.rate, other.hop.rate)
            self.assertEqual((later_at(one, other), from_on(one, other), better(one, other)), ([0, 1], 2, Worse(0)))
            self.assertEqual(from_on(one.but(travel=0), other.but(travel=9)), 0)

    def test_growths_that_have_too_many_gains_together(self):
        one = stack(size=1, plan=Plan.plain(), rule=Total(0), ring=Round(None, *["a"] * 23))
        for other in (one.but(ring=Round(None, *["a"] * 19), size=31), one.but(ring=Round(None, *["a"] * 22), size=29)):
            if lcm(len(one.hop.gains), len(other.hop.gains)) > 2000:
                for work in (better, from_on, order):
                    self.refused(("TooMany", "gains", 2000), work, one, other)
                    self.refused(("TooMany", "gains", 2000), work, other, one)
                # The looker tells all the same: any length at which one is later, and numbers that are great enough.
                every = lcm(len(one.hop.gains), len(other.hop.gains))
                late = later_at(one, other)
                self.assertTrue(late)
                self.assertTrue(shows_better(one, other, Worse(late[-1])))
                self.assertFalse(shows_better(one, other, Better(99, every)))
                early = other.but(travel=0)
                self.assertEqual(shows_better(early, one.but(travel=1000), Better(99, every)), every <= 19901)
                break
        else:
            self.fail("no pair has too many gains")


class LookTest(Case):

    def test_better_papers(self):
        one, other = stack(flow="b"), stack()
        begin, every = better(one, other).begin, better(one, other).every
        for more in range(4):
            for times in (1, 2, 5):
                self.assertTrue(shows_better(one, other, Better(begin + more, times * every)))
        self.assertTrue(shows_better(one, other, Better(20000 - every, every)))
        self.assertFalse(shows_better(one, other, Better(20001 - every, every)))
        self.assertTrue(shows_better(one, other, Better(begin, (20000 - begin) // every * every)))
        self.assertFalse(shows_better(one, other, Better(begin, 20000 // every * every)))
        for wrong in (Better(begin - 1, every), Better(begin, every - 1), Better(begin, every + 1), Better(begin, 0), Better(begin, -every),
                      Better(-1, every), Better(True, every), Better(begin, True), Better(str(begin), every), Better(begin, None),
                      Better(10 ** 30, every), Better(begin, 10 ** 30 * every), Worse(0), Worse(7)):
            self.assertFalse(shows_better(one, other, wrong))
        for value in any_values():
            self.assertIs(shows_better(one, other, value), False)
            self.assertIs(shows_better(one, other, Better(value, every)), False)
            self.assertIs(shows_better(one, other, Better(begin, value)), False)
            self.assertIs(shows_better(other, one, Worse(value)), False)
        self.assertIs(shows_better(value=Better(begin, every), other=other, one=one), True)

    def test_both_numbers_of_gains(self):
        one = stack(plan=Plan.plain(), rule=Total(0), ring=Round("a"), travel=0, size=6)
        other = stack(plan=Plan.plain(), rule=Total(0), ring=Round("a"), travel=1, size=4)
        gains = [len(one.hop.gains), len(other.hop.gains)]
        self.assertEqual(gains, [3, 2])
        begin = max(len(one.hop.told), len(other.hop.told))
        for every in range(1, 25):
            self.assertEqual(shows_better(one, other, Better(begin, every)), every % 6 == 0, every)
            self.assertFalse(shows_better(other, one, Better(begin, every)))

    def test_later_at_one_length_or_rising_more(self):
        for one, other in dealt_stacks(5, 60):
            for left, right in ((one, other), (other, one)):
                late = later_at(left, right)
                begin = max(len(left.hop.told), len(right.hop.told))
                every = lcm(len(left.hop.gains), len(right.hop.gains))
                self.assertEqual(shows_better(left, right, Better(begin, every)), bool(better(left, right)))
                for length in (0, 1, 5, 100, 240):
                    self.assertEqual(shows_better(left, right, Worse(length)), length in late)
        # Never later up to begin and every, but it rises more.
        half = stack(size=1, plan=Plan.plain(), rule=Total(0), ring=Round("a", None), travel=0)
        more = half.but(ring=Round("a"), travel=100)
        begin, every = max(len(half.hop.told), len(more.hop.told)), lcm(len(half.hop.gains), len(more.hop.gains))
        self.assertEqual([half.hop(length) <= more.hop(length) for length in range(begin + every + 1)].count(False), 0)
        self.assertFalse(shows_better(half, more, Better(begin, every)))

    def test_refused(self):
        one = stack()
        for value in any_values():
            for work in (better, from_on, order):
                self.refused(("BadStack", "one"), work, value, value)
                self.refused(("BadStack", "other"), work, one, value)
            self.refused(("BadStack", "one"), shows_better, value, value, value)
            self.refused(("BadStack", "other"), shows_better, one, value, value)
        self.refused(("BadStack", "one"), better, one.hop, one)

    def test_papers(self):
        for value in any_values():
            self.assertEqual((Better(value, 1).begin, Better(1, value).every, Worse(value).length), (value, value, value))
            self.assertEqual(Better(value, value), Better(every=value, begin=value))
            self.assertEqual(Worse(value), Worse(length=value))
            self.assertNotEqual(Better(value, 1), Better(value, 2))
            self.assertNotEqual(Better(1, value), Better(("no",), value))
            self.assertNotEqual(Worse(value), Worse(("no",)))
        self.assertNotEqual(Better(1, 2), Worse(1))
        self.assertNotEqual(Worse(1), Better(1, 2))
        self.assertEqual([bool(Better(0, 0)), bool(Worse(1))], [True, False])
