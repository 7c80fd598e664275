"""Rounds that keep wishes, against a list of all rounds of up to five slots."""

from functools import lru_cache
from itertools import product

from layerpost.least_round import keeps, least_round, spare_slots
from layerpost.rounds import Round
from tests.helpers import Case, any_values, dealer
from tests.test_waits import walked_wait


@lru_cache(None)
def worst_wait(slots, flow, many):
    """The greatest wait over all places, None if the flow has no slot."""
    if flow not in slots:
        return None
    return max([walked_wait(slots, flow, place, many) for place in range(len(slots))])


def is_kept(slots, wishes):
    """Whether a row of slots keeps all wishes."""
    told = [(worst_wait(slots, flow, many), most) for flow, many, most in wishes]
    return all([wait is not None and wait <= most for wait, most in told])


def all_rows(names, longest):
    """All rows of slots, shorter ones first, then idle slots ahead of names."""
    for length in range(1, longest + 1):
        yield from product((None, *names), repeat=length)


def dealt_wishes(chance):
    """Up to four wishes of up to three flows."""
    names = chance.choice(("a", "ab", "abc", "ca"))
    return [(chance.choice(names), many := chance.randint(1, 4), chance.randint(many, 2 * many + 4))
            for _ in range(chance.randint(0, 4))]


class KeepsTest(Case):

    def test_against_a_walk(self):
        chance = dealer(1)
        for _ in range(300):
            slots = tuple([chance.choice("abcd") if chance.random() < .8 else None for _ in range(chance.randint(1, 6))])
            wishes = dealt_wishes(chance)
            kept = is_kept(slots, wishes)
            self.assertIs(keeps(Round(*slots), *wishes), kept)
            spare = [at for at in range(len(slots)) if slots[at] is not None and is_kept(
                (*slots[:at], None, *slots[at + 1:]), wishes)]
            self.assertEqual(spare_slots(Round(*slots), *wishes), tuple(spare) if kept else ())

    def test_edges(self):
        self.assertIs(keeps(Round("a")), True)
        self.assertIs(keeps(Round(None)), True)
        self.assertIs(keeps(Round(None), ("a", 1, 10000)), False)
        self.assertIs(keeps(Round("a", "b"), ("a", 100, 200)), True)
        self.assertIs(keeps(Round("a", "b"), ("a", 100, 199)), False)
        self.assertIs(keeps(Round("a", "b"), ("a", 1, 2), ("a", 1, 1)), False)
        self.assertIs(keeps(Round("a"), ("a", 1, 1), ("b", 1, 10000)), False)
        self.assertEqual(spare_slots(ring=Round("z", "a", None, "a")), (0, 1, 3))
        self.assertEqual(spare_slots(Round("z", "a", None, "a"), ("a", 1, 4)), (0, 1, 3))
        self.assertEqual(spare_slots(Round("z", "a", None, "a"), ("a", 1, 3)), (0,))
        self.assertEqual(spare_slots(Round("z", "a"), ("a", 1, 2)), (0,))
        self.assertEqual(spare_slots(Round("z", "a"), ("a", 1, 1)), ())

    def test_a_flow_without_a_slot_keeps_no_wish(self):
        for slots in all_rows("b", 3):
            self.assertIs(keeps(Round(*slots), ("a", 1, 10000)), False)
            self.assertEqual(spare_slots(Round(*slots), ("a", 1, 10000)), ())


class LeastTest(Case):

    def test_against_all_rounds_of_up_to_five_slots(self):
        chance = dealer(2)
        found = []
        for _ in range(150):
            wishes = dealt_wishes(chance)
            names = sorted({flow for flow, _, _ in wishes})
            wanted = next((slots for slots in all_rows(names, 5) if is_kept(slots, wishes)), None)
            ring = least_round(*wishes, longest=5)
            self.assertEqual(ring.slots if ring else None, wanted)
            found.append(wanted and len(wanted))
        self.assertLessEqual({None, 1, 2, 3, 5}, set(found))

    def test_six_seven_and_eight_slots(self):
        for many in (6, 7, 8):
            # Slots one behind the other are late: of two in a round of so many, one wait is long.
            wishes = [("a", many - 1, many), ("b", 1, many)]
            wanted = Round(*["a"] * (many - 1), "b")
            self.assertEqual(least_round(*wishes, longest=many), wanted)
            self.assertEqual(least_round(*wishes, longest=8), wanted)
            self.assertIsNone(least_round(*wishes, longest=many - 1))
        self.assertIsNone(least_round(("a", 6, 7), ("b", 1, 7)))
        self.assertEqual(least_round(("a", 5, 6), ("b", 1, 6)), Round(*"aaaaab"))
        three = [("a", 3, 6), ("b", 2, 6), ("c", 1, 6)]
        self.assertEqual(str(least_round(*three)), "a a a b b c")
        self.assertTrue(keeps(least_round(*three), *three))

    def test_the_first_one_of_its_length(self):
        for wishes in ([("a", 1, 4), ("b", 3, 4)], [("a", 2, 5), ("b", 1, 3), ("c", 1, 5)], [("a", 1, 2), ("b", 2, 8)],
                       [("b", 1, 3), ("a", 1, 3), ("c", 1, 3)], [("a", 2, 3), ("b", 1, 5)]):
            names = sorted({flow for flow, _, _ in wishes})
            wanted = next(slots for slots in all_rows(names, 6) if is_kept(slots, wishes))
            self.assertEqual(least_round(*wishes).slots, wanted)

    def test_without_wishes_and_none(self):
        self.assertEqual(least_round(), Round(None))
        self.assertEqual(least_round(longest=1), Round(None))
        self.assertIsNone(least_round(("a", 2, 1)))
        self.assertIsNone(least_round(("a", 1, 1), ("b", 1, 10000), longest=8))
        self.assertEqual(least_round(("a", 1, 10000)), Round("a"))
        self.assertEqual(least_round(("a", 1, 2), ("a", 1, 1), longest=1), Round("a"))


class RefusedTest(Case):

    def wrong(self):
        """Values that are no wishes."""
        return [*any_values(), "a", ("a", 1), ("a", 1, 1, 1), ["a", 1, 1], ("A", 1, 1), ("", 1, 1), (None, 1, 1),
                ("a", 0, 1), ("a", 101, 1), ("a", True, 1), ("a", "1", 1), ("a", 1, 0), ("a", 1, 10001), ("a", 1, True),
                ("a", 1, None), ((), 1, 1)]

    def test_values_that_are_no_wishes(self):
        good = ("a", 100, 10000)
        for value in self.wrong():
            for work in (least_round, lambda *wishes: keeps(Round("b"), *wishes),
                         lambda *wishes: spare_slots(Round("b"), *wishes)):
                self.refused(("BadRound", 0), work, value)
                self.refused(("BadRound", 2), work, good, good, value, value)

    def test_rounds(self):
        for value in [*any_values(), ("a", 1, 1), "a"]:
            self.refused(("BadRound", "round"), keeps, value, value)
            self.refused(("BadRound", "round"), spare_slots, value)

    def test_flows_and_lengths(self):
        four = [(name, 1, 9) for name in "abcd"]
        self.refused(("TooMany", "flows", 3), least_round, *four, longest=0)
        self.refused(("BadRound", 4), least_round, *four, None, longest=0)
        for value in [*any_values(), 0, 9]:
            self.refused(("BadNumber", value), least_round, *four[:3], longest=value)
        self.assertEqual(str(least_round(*four[:3], *four[:3], longest=8)), "a b c")
        self.assertIs(keeps(Round(*"abcd"), *four), True)
