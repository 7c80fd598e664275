"""Loss rules: what they let, least places, texts."""

from itertools import product

from layerpost.losses import Burst, LossRule, MachineRule, Total
from tests.helpers import Case, any_values, dealer, error_of

ALL = ["".join(slots) for many in range(10) for slots in product(".x", repeat=many)]


def total_lets(most, losses):
    """Whether these are at most so many losses in all."""
    return losses.count("x") <= most


def burst_lets(most, apart, losses):
    """Whether each row of losses is at most so long, and so many kept slots lie between two rows."""
    rows = [row for row in losses.split(".") if row]
    between = losses.strip(".").replace("x", " ").split()
    return all([len(row) <= most for row in rows]) and all([len(row) >= apart for row in between])


def machine_lets(places, losses):
    """Whether a machine lets these, slot by slot."""
    place = 0
    for slot in losses:
        place = places[place]["." != slot]
        if place is None:
            return False
    return True


def slow_places(places):
    """The least places of a machine: kinds of places by pairs that differ, numbered by the first losses."""
    many = len(places)
    unlike = {(one, other) for one in range(many) for other in range(many)
              if (places[one][1] is None) != (places[other][1] is None)}
    while True:
        more = {(one, other) for one in range(many) for other in range(many)
                if (places[one][0], places[other][0]) in unlike or None not in (places[one][1], places[other][1])
                and (places[one][1], places[other][1]) in unlike}
        if more <= unlike:
            break
        unlike |= more
    kind = {one: min(other for other in range(many) if (one, other) not in unlike) for one in range(many)}
    first, at = [kind[0]], 0
    while at < len(first):
        for place in places[first[at]]:
            if place is not None and kind[place] not in first:
                first.append(kind[place])
        at += 1
    return tuple([tuple([None if place is None else first.index(kind[place]) for place in places[one]])
                  for one in first])


def dealt_places(chance, most=7):
    """The places of a machine by chance."""
    many = chance.randint(1, most)
    return [(chance.randrange(many), chance.choice((None, chance.randrange(many)))) for _ in range(many)]


class RulesTest(Case):

    def test_total(self):
        for most in range(9):
            rule = Total(most)
            for losses in ALL:
                self.assertIs(rule.lets(losses), total_lets(most, losses))
            self.assertEqual(rule.places, tuple([(at, at + 1 if at < most else None) for at in range(most + 1)]))
            self.assertTrue(rule.is_calm)

    def test_burst(self):
        for most, apart in product(range(1, 9), repeat=2):
            if most + apart > 12:
                self.refused(("TooMany", "places", 12), Burst, most, apart)
                continue
            rule = Burst(most, apart)
            self.assertEqual(len(rule.places), most + apart)
            self.assertTrue(rule.is_calm)
            for losses in ALL:
                self.assertIs(rule.lets(losses), burst_lets(most, apart, losses))
        self.assertEqual(str(Burst(most=2, apart=2)), "losses 0 1 / 2 3 / 0 - / 2 -")

    def test_machines_and_least_places(self):
        chance = dealer(1)
        for _ in range(300):
            places = dealt_places(chance)
            rule = MachineRule(*places)
            self.assertEqual(rule.places, slow_places(places))
            for losses in ALL[::7]:
                self.assertIs(rule.lets(losses), machine_lets(places, losses))
            self.assertIs(rule.is_calm, rule.places[0][0] == 0)
            self.assertEqual(MachineRule(*rule.places).places, rule.places)
        self.assertEqual(MachineRule([1, None], [0, None]).places, ((0, None),))
        self.assertFalse(MachineRule((1, None), (0, 0)).is_calm)
        self.assertTrue(MachineRule((1, 1), (0, 1)).is_calm)

    def test_lets(self):
        rule = Burst(1, 1)
        self.assertIs(rule.lets(losses="x." * 200), True)
        self.assertIs(rule.lets("x" + "." * 398 + "x"), True)
        for value in [*any_values(), "." * 401, "x o", ".X", ["x"], "\n"]:
            self.refused(("BadLosses", value), rule.lets, value)
        self.assertIs(Total(0).lets(""), True)

    def test_equal_is_what_is_let(self):
        self.assertEqual(Total(0), MachineRule((1, None), (2, None), (0, None)))
        self.assertEqual(Burst(1, 1), MachineRule((0, 1), [0, None]))
        self.assertNotEqual(Burst(1, 1), Burst(1, 2))
        for value in any_values():
            self.assertFalse(Total(1) == value)
        chance = dealer(2)
        for _ in range(200):
            one, other = dealt_places(chance, 3), dealt_places(chance, 3)
            same = [machine_lets(one, losses) for losses in ALL] == [machine_lets(other, losses) for losses in ALL]
            self.assertIs(MachineRule(*one) == MachineRule(*other), same)

    def test_both_and_either_and_within(self):
        chance = dealer(3)
        rules = [Total(2), Burst(1, 1), Burst(2, 3), Burst(3, 1), Total(0)]
        rules += [MachineRule(*dealt_places(chance, 5)) for _ in range(40)]
        for _ in range(300):
            one, other = chance.choice(rules), chance.choice(rules)
            texts = (str(one), str(other))
            left = [one.lets(losses) for losses in ALL]
            right = [other.lets(losses) for losses in ALL]
            for work, wanted in ((lambda: one & other, [a and b for a, b in zip(left, right)]),
                                 (lambda: one | other, [a or b for a, b in zip(left, right)])):
                if error_of(work) is None:
                    rule = work()
                    self.assertIsInstance(rule, LossRule)
                    self.assertEqual([rule.lets(losses) for losses in ALL], wanted)
                    self.assertEqual(rule.places, slow_places(rule.places))
                else:
                    self.refused(("TooMany", "places", 12), work)
            self.assertIs(one.within(other), not [1 for a, b in zip(left, right) if a and not b])
            self.assertEqual((str(one), str(other)), texts)

    def test_twelve_and_thirteen_places(self):
        turn = [(at + 1, None) for at in range(11)] + [(0, 0)]
        self.assertEqual(len(MachineRule(*turn).places), 12)
        self.refused(("BadRule", "places"), MachineRule, *[(0, None)] * 13)
        three, four = (MachineRule(*[((at + 1) % many, 0 if at == 0 else None) for at in range(many)]) for many in (3, 4))
        five = MachineRule(*[((at + 1) % 5, 0 if at == 0 else None) for at in range(5)])
        for one, other in ((three, four), (four, five), (Total(8), Burst(4, 4)), (Burst(4, 8), Burst(8, 4))):
            for work in (lambda: one & other, lambda: one | other):
                found = error_of(work)
                self.assertIn(found, (None, ("TooMany", "places", 12)))
                if found is None:
                    self.assertLessEqual(len(work().places), 12)
        self.refused(("TooMany", "places", 12), lambda: Total(8) & Burst(4, 4))
        # Of more places than twelve only the least ones count.
        self.assertEqual(Burst(4, 8) & Burst(4, 8), Burst(4, 8))
        self.assertEqual(Burst(4, 8) & Total(1), Total(1))
        self.assertEqual(Burst(4, 8) | Burst(3, 8), Burst(4, 8))

    def test_in_place_the_name_is_bound_to_the_result(self):
        rule = first = Burst(1, 1)
        rule &= Total(1)
        self.assertEqual((rule, first), (Total(1), Burst(1, 1)))
        rule |= first
        self.assertEqual(rule, first)


class RefusedTest(Case):

    def test_places(self):
        for value in [*any_values(), (0,), (0, 0, 0), (None, 0), (0, 2), (2, 0), (-1, 0), (True, 0), (0, False),
                      (0, "0"), "00", {0: 0, 1: 1}, [[0], 0], (0, -1)]:
            self.refused(("BadRule", 1), MachineRule, (0, 1), value)
            self.refused(("BadRule", 0), MachineRule, value, value)
        for value in any_values():
            self.refused(("BadRule", 13), MachineRule, *[(0, 13)] * 13, value)
        self.refused(("BadRule", "places"), MachineRule)
        self.refused(("BadRule", "places"), MachineRule, *[(0, 12)] * 13)

    def test_total_and_burst(self):
        for value in [*any_values(), 9]:
            self.refused(("BadRule", "most"), Total, value)
            self.refused(("BadRule", "most"), Burst, value, value)
            self.refused(("BadRule", "apart"), Burst, 8, value)
        self.refused(("BadRule", "most"), Burst, 0, 1)
        self.refused(("BadRule", "apart"), Burst, 8, 0)
        self.refused(("TooMany", "places", 12), Burst, 8, 5)
        self.assertEqual(len(Burst(8, 4).places), 12)
        self.assertEqual(len(Total(most=8).places), 9)

    def test_others(self):
        for value in any_values():
            self.refused(("BadRule", "other"), lambda: Total(1) & value)
            self.refused(("BadRule", "other"), lambda: Burst(1, 1) | value)
            self.refused(("BadRule", "other"), Total(1).within, value)


class TextsTest(Case):

    def test_there_and_back(self):
        chance = dealer(4)
        for rule in [Total(0), Total(8), Burst(4, 8), *[MachineRule(*dealt_places(chance, 12)) for _ in range(200)]]:
            again = LossRule.read(str(rule))
            self.assertEqual(again, rule)
            self.assertIsInstance(again, MachineRule)

    def test_words_that_cannot_stand(self):
        for text, word in (
                ("", 0), ("loss 0 -", 0), ("losses", 1), ("losses ", 1), ("losses -", 1), ("losses 1 -", 1),
                ("losses /", 1), ("losses 00 -", 1), ("losses 0", 2), ("losses 0 ", 2), ("losses 0 1", 2),
                ("losses 0 None", 2), ("losses 0 /", 2), ("losses 0 - ", 3), ("losses 0 - 0", 3), ("losses 0 - /", 4),
                ("losses 0 - / ", 4), ("losses 0 - / 2 -", 4), ("losses 0 1 / 0", 5), ("losses 2 1 / 0 -", 1),
                ("losses 0 1 / 0 - /", 7), ("losses 0 2 / 0 - /", 7), ("losses 0 2 / 0 -", 2), ("losses 0 - / / 0 -", 4),
                ("losses 0 - - /", 3), ("losses  0 -", 1)):
            self.refused(("BadText", 0, word), LossRule.read, text)

    def test_what_is_not_least_or_not_in_order(self):
        for text in ("losses 0 - / 0 -", "losses 1 - / 0 -", "losses 0 2 / 0 - / 1 -", "losses 0 0 / 0 0",
                     "losses 0 1 / 0 1"):
            self.refused(("BadText", 0, 0), LossRule.read, text)
        self.assertEqual(str(LossRule.read("losses 0 1 / 2 - / 0 -")), "losses 0 1 / 2 - / 0 -")

    def test_a_twelfth_stroke(self):
        turn = [f"{at + 1} -" for at in range(11)] + ["0 0"]
        self.assertEqual(len(LossRule.read("losses " + " / ".join(turn)).places), 12)
        self.refused(("BadText", 0, 36), LossRule.read, "losses " + " / ".join([*turn, "12 -"]))
        self.refused(("BadText", 0, 36), LossRule.read, "losses " + " / ".join(["12 -", *turn]))
        self.refused(("BadText", 0, 1), LossRule.read, "losses " + " / ".join(["13 -", *turn]))
        self.refused(("BadText", 0, 36), LossRule.read, "losses " + " / ".join(turn) + " /")

    def test_what_is_no_string(self):
        for value in any_values():
            self.refused(("BadText", 0, 0), LossRule.read, value)
