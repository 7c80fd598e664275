"""Wishes, shares, lengths and frontiers: by the test's own slots and delays; and letters that were seen."""

from layerpost.growths import Growth
from layerpost.least_stacks import Least, Wish, frontier, greatest_length, least_share, spread
from layerpost.losses import Total
from layerpost.plans import Plan
from layerpost.rounds import Round
from layerpost.seen import Seen, least_travel, tightest
from layerpost.verdicts import Verdict
from tests.helpers import Case, any_values, dealer
from tests.sums import hop_at, longest
from tests.test_compared import later_at
from tests.test_bounds import FRAMES, LINES, RINGS
from tests.test_stacks import stack


def own_hop(told, length, ring=None):
    """The greatest delay on the lane of a stack, by the test's own longest frames and slots."""
    class Lane:
        plan, rule, travel = told.plan, told.rule, told.travel
    Lane.ring = told.ring if ring is None else ring
    return hop_at(Lane, told.flow, -(-longest(told.frames, "", length + 1) // told.size))


def stacks(seed, many):
    """Stacks by chance."""
    chance = dealer(seed)
    for _ in range(many):
        plan, rule = chance.choice(LINES)
        yield stack(frames=chance.choice(FRAMES), size=chance.choice((1, 3, 4, 8)), plan=plan, rule=rule,
                    ring=Round.read(chance.choice(RINGS)), flow="x", travel=chance.randint(0, 9))


class WishTest(Case):

    def test_keeps(self):
        for told in stacks(1, 30):
            for length in (0, 3, 17):
                for lanes in (1, 2, 1000):
                    delay = lanes * own_hop(told, length)
                    self.assertIs(Wish(length, delay, lanes).keeps(told), True)
                    self.assertIs(Wish(length, delay - 1, lanes).keeps(told), False)
                    self.assertTrue(Wish(length, 10 ** 30, lanes).keeps(stack=told))
        wish = Wish(1, 2)
        self.assertEqual((wish.length, wish.delay, wish.lanes), (1, 2, 1))
        self.assertEqual(wish, Wish(lanes=1, delay=2, length=1))
        for other in (Wish(2, 2), Wish(1, 3), Wish(1, 2, 2)):
            self.assertNotEqual(wish, other)
        for value in [*any_values(), (1, 2, 1)]:
            self.assertFalse(wish == value)

    def test_refused(self):
        for value in [*any_values(), 10 ** 30 + 1]:
            self.refused(("BadNumber", value), Wish, value, "no", "no")
            self.refused(("BadNumber", value), Wish, 0, value, "no")
            self.refused(("BadNumber", value), Wish, 0, 0, value)
            self.refused(("BadStack", "stack"), Wish(0, 0).keeps, value)
        for lanes in (0, 1001):
            self.refused(("BadNumber", lanes), Wish, 10 ** 30, 10 ** 30, lanes)
        self.assertEqual(Wish(10 ** 30, 10 ** 30, 1000).lanes, 1000)


class ShareTest(Case):

    def test_spread(self):
        for slots in range(1, 25):
            for own in range(1, slots + 1):
                ring = spread("q", own, slots)
                self.assertEqual(len(ring), slots)
                self.assertEqual(ring.own("q"), tuple(sorted({at * slots // own for at in range(own)})))
                self.assertEqual((len(ring.own("q")), ring.flow_names()), (own, ("q",)))
        self.assertEqual(str(spread(slots=5, own=2, flow="a")), "a - a - -")
        for value in any_values():
            self.refused(("BadName", value), spread, value, value, value)
            self.refused(("BadNumber", value), spread, "a", value, 5)
            self.refused(("BadNumber", value), spread, "a", "own", value)
        for own, slots, wrong in ((0, 5, 0), (6, 5, 6), (1, 0, 0), (1, 25, 25), (30, 25, 25), (0, 0, 0)):
            self.refused(("BadNumber", wrong), spread, "a", own, slots)
        self.assertEqual(len(spread("a", 24, 24).own("a")), 24)

    def test_least_share_by_all_numbers(self):
        chance, nones = dealer(2), 0
        for told in stacks(3, 40):
            slots, length, lanes = chance.choice((1, 2, 5, 7, 12)), chance.randint(0, 30), chance.choice((1, 3))
            delays = [lanes * own_hop(told, length, spread("x", own, slots)) for own in range(1, slots + 1)]
            for delay in {*delays, *[one - 1 for one in delays], 0}:
                answer = least_share(told, Wish(length, delay, lanes), slots)
                enough = [own for own in range(1, slots + 1) if delays[own - 1] <= delay]
                if not enough:
                    nones += 1
                    self.assertIsNone(answer)
                else:
                    self.assertEqual(answer, Least(enough[0], tuple(delays[:enough[0]])))
        self.assertGreater(nones, 20)
        self.assertEqual(least_share(slots=24, wish=Wish(0, 10 ** 30), stack=stack()).number, 1)

    def test_refused(self):
        told, wish = stack(), Wish(1, 1)
        for value in any_values():
            self.refused(("BadStack", "stack"), least_share, value, value, value)
            self.refused(("BadStack", "wish"), least_share, told, value, value)
            self.refused(("BadNumber", value), least_share, told, wish, value)
            self.refused(("BadStack", "stack"), greatest_length, value, value, value)
            self.refused(("BadNumber", value), greatest_length, told, value, "no")
            self.refused(("BadNumber", value), greatest_length, told, 5, value)
        for slots in (0, 25):
            self.refused(("BadNumber", slots), least_share, told, wish, slots)
        for lanes in (0, 1001):
            self.refused(("BadNumber", lanes), greatest_length, told, 10 ** 30, lanes)
        self.refused(("BadNumber", 10 ** 30 + 1), greatest_length, told, 10 ** 30 + 1, 1)

    def test_papers(self):
        for value in any_values():
            self.assertEqual((Least(value, 1).number, Least(1, value).delays), (value, value))
            self.assertEqual(Least(value, value), Least(delays=value, number=value))
            self.assertNotEqual(Least(value, 1), Least(value, 2))
            self.assertNotEqual(Least(1, value), Least(("no",), value))
        self.assertNotEqual(Least(1, 2), (1, 2))
        self.assertFalse(issubclass(Least, Verdict))
        self.assertTrue(Least(0, ()))


class LengthTest(Case):

    def test_greatest_length(self):
        for told in stacks(4, 40):
            for lanes in (1, 3, 1000):
                delays = [lanes * own_hop(told, length) for length in range(40)]
                for delay in {*delays, *[one - 1 for one in delays], 0}:
                    within = [length for length, one in enumerate(delays) if one <= delay]
                    answer = greatest_length(told, delay, lanes)
                    if not within:
                        self.assertIsNone(answer)
                    elif within[-1] < 39:
                        self.assertEqual(answer, within[-1])
                    else:
                        self.assertGreaterEqual(answer, 39)
            self.assertEqual(greatest_length(told, delays[0] // 1000), greatest_length(told, lanes=1, delay=delays[0] // 1000))

    def test_far_off(self):
        for told in stacks(5, 20):
            for delay in (10 ** 6 + 3, 10 ** 30):
                for lanes in (1, 999):
                    length = greatest_length(told, delay, lanes)
                    hop = told.hop
                    self.assertLessEqual(lanes * hop(length), delay)
                    self.assertGreater(lanes * hop(length + 1), delay)
        wide = stack(size=32, plan=Plan.plain(), rule=Total(0), ring=Round("a"), travel=0)
        length = greatest_length(wide, 10 ** 30)
        self.assertGreater(length, 10 ** 30)
        self.refused(("BadNumber", length), wide.delay_of, length)


def slow_frontier(priced):
    """The indexes that are left, pair by pair, by a look at the hops up to 240."""
    left = []
    for at, (price, one) in enumerate(priced):
        beaten = False
        for by, (less, other) in enumerate(priced):
            if by == at or less > price or later_at(other, one):
                continue
            beaten = beaten or less < price or by < at or bool(later_at(one, other))
        if not beaten:
            left.append(at)
    return tuple(left)


def near_stacks(chance, many):
    """Stacks near one another, whose hops differ within 240 if they differ at all."""
    row = []
    for _ in range(many):
        row.append(stack(size=chance.choice((4, 8)), travel=chance.choice((0, 1, 5)), flow=chance.choice("ab"),
                         ring=Round.read(chance.choice(("a b b", "b a b", "a b", "a a b b")))))
    return row


class FrontierTest(Case):

    def test_against_pairs(self):
        chance = dealer(6)
        for _ in range(80):
            row = near_stacks(chance, chance.randint(0, 7))
            priced = [(chance.randint(0, 3), told) for told in row]
            self.assertEqual(frontier(*priced), slow_frontier(priced))
            self.assertEqual(frontier(*[(5, told) for told in row]), slow_frontier([(5, told) for told in row]))

    def test_equal_stacks_and_equal_prices(self):
        one = stack()
        like = stack(ring=one.ring << 1)
        self.assertEqual(frontier((3, one), (3, one), (3, like)), (0,))
        self.assertEqual(frontier((3, one), (2, like), (3, one)), (1,))
        self.assertEqual(frontier((3, one), (3, one.but(travel=1))), (1,))
        self.assertEqual(frontier((3, one), (4, one.but(travel=1)), (5, one.but(travel=1))), (0, 1))
        self.assertEqual(frontier((3, one.but(travel=1)), (4, one)), (0,))
        self.assertEqual(frontier(), ())
        self.assertEqual(frontier((10 ** 30, one)), (0,))

    def test_refused(self):
        one = (1, stack())
        for value in [*any_values(), (1,), [1, stack()], (stack(), 1), (-1, stack()), (True, stack()), (10 ** 30 + 1, stack()), (1, stack(), 1)]:
            self.refused(("BadStack", 0), frontier, value)
            self.refused(("BadStack", 2), frontier, one, one, value, value)
        for at, value in enumerate(any_values()):
            self.refused(("BadStack", 1), frontier, one, (1, value) if at % 2 else (value, one[1]), value)

    def test_what_comparing_raises_goes_on(self):
        one = stack(size=1, plan=Plan.plain(), rule=Total(0), ring=Round(None, *["a"] * 23))
        other = one.but(ring=Round(None, *["a"] * 19), size=31)
        self.refused(("TooMany", "gains", 2000), frontier, (1, one), (1, other))
        self.refused(("TooMany", "gains", 2000), tightest, Seen(), one, other)


class SeenTest(Case):

    def dealt(self, chance, many):
        return [(chance.randint(0, 9), chance.randint(1, 4), chance.randint(0, 60)) for _ in range(many)]

    def test_first_beyond(self):
        chance, found = dealer(7), set()
        for told in stacks(8, 40):
            entries = self.dealt(chance, 4)
            seen = Seen(*entries)
            late = [at for at, (length, lanes, delay) in enumerate(entries) if delay > lanes * own_hop(told, length)]
            self.assertEqual(seen.first_beyond(told), late[0] if late else None)
            found.add(late[0] if late else None)
            at = own_hop(told, 3)
            self.assertEqual([Seen((3, 2, 2 * at)).first_beyond(told), Seen((3, 2, 2 * at), (3, 2, 2 * at + 1)).first_beyond(stack=told)], [None, 1])
        self.assertLessEqual({None, 0, 1, 3}, found)
        self.assertIsNone(Seen().first_beyond(stack()))

    def test_entries(self):
        entries = [(0, 1, 5), (10 ** 30, 1000, 10 ** 30)]
        seen = Seen(*entries)
        self.assertEqual((seen.entries, len(seen), list(seen)), (tuple(entries), 2, entries))
        self.assertEqual(seen, Seen(*entries))
        for other in (Seen(), Seen(entries[0]), Seen(*entries[::-1]), Seen(entries[0], (10 ** 30, 1000, 10 ** 30 - 1))):
            self.assertNotEqual(seen, other)
        self.assertFalse(seen == tuple(entries))
        self.assertEqual(len(Seen()), 0)

    def test_tightest(self):
        chance = dealer(9)
        sizes = set()
        for _ in range(80):
            row = near_stacks(chance, chance.randint(0, 6))
            seen = Seen(*[(length, lanes, lanes * delay) for length, lanes, delay in
                          [(chance.randint(0, 5), chance.randint(1, 3), chance.randint(0, 14)) for _ in range(chance.randint(0, 2))]])
            lets = [at for at, told in enumerate(row) if seen.first_beyond(told) is None]
            wanted = tuple([lets[at] for at in slow_frontier([(0, row[at]) for at in lets])])
            self.assertEqual(tightest(seen, *row), wanted)
            sizes.add(len(wanted))
        self.assertLessEqual({0, 1, 2}, sizes)
        self.assertEqual(tightest(Seen()), ())

    def test_least_travel(self):
        chance, great = dealer(10), 0
        for told in stacks(11, 40):
            entries = self.dealt(chance, 3) + ([(chance.randint(0, 3), chance.randint(1, 3), chance.randint(0, 3000))] if chance.random() < .5 else [])
            seen = Seen(*entries)
            travel = least_travel(told, seen)
            need = [-(-delay // lanes) - own_hop(told, length) + told.travel for length, lanes, delay in entries]
            self.assertEqual(travel, max([0, *need]))
            if travel <= 1000:
                self.assertIsNone(seen.first_beyond(told.but(travel=travel)))
                if travel:
                    self.assertIsNotNone(seen.first_beyond(told.but(travel=travel - 1)))
            great += travel > 1000
            self.assertEqual(least_travel(told.but(travel=0), seen), travel)
        self.assertGreater(great, 0)
        self.assertEqual(least_travel(seen=Seen(), stack=stack()), 0)
        self.assertEqual(least_travel(stack(), Seen((0, 1000, 10 ** 30))), 10 ** 27 - 6)

    def test_refused(self):
        told = stack()
        for value in [*any_values(), (1, 1), (1, 1, 1, 1), [1, 1, 1], (-1, 1, 1), (1, 0, 1), (1, 1001, 1), (1, 1, -1), (True, 1, 1),
                      (1, True, 1), (1, 1, True), (10 ** 30 + 1, 1, 1), (1, 1, 10 ** 30 + 1), ("1", 1, 1)]:
            self.refused(("BadPlay", 0), Seen, value)
            self.refused(("BadPlay", 1), Seen, (1, 1, 1), value, value)
        for value in any_values():
            self.refused(("BadStack", "stack"), Seen().first_beyond, value)
            self.refused(("BadPlay", "seen"), tightest, value, value)
            self.refused(("BadStack", 0), tightest, Seen(), value)
            self.refused(("BadStack", 2), tightest, Seen((0, 1, 10 ** 9)), told, told, value, value)
            self.refused(("BadStack", "stack"), least_travel, value, value)
            self.refused(("BadPlay", "seen"), least_travel, told, value)
        self.assertIsInstance(told.hop, Growth)
