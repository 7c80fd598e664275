"""Waits for own slots of rounds, and the lookers at them, against a walk of the slots tick by tick."""

from layerpost.growths import Growth
from layerpost.look_waits import shows_place, shows_waits
from layerpost.rounds import Round
from layerpost.waits import wait_from, waits, worst_place
from tests.helpers import Case, any_values, dealer

RINGS = ("x", "x -", "- x", "x x", "x x x", "x y", "x - - -", "- - x x", "x - x -", "x x - - - y", "- x - x x",
         "y y y x", "x " + "- " * 22 + "y", "- " * 23 + "x", " ".join(["x"] * 24), "x " * 12 + "y " * 11 + "x")
FAR = (10 ** 6, 10 ** 30 - 1, 10 ** 30)


def walked_wait(slots, flow, place, many):
    """The wait, slot by slot."""
    ticks, found = 0, 0
    while found < many:
        if slots[(place + ticks) % len(slots)] == flow:
            found += 1
        ticks += 1
    return ticks


def dealt_rings(seed, many):
    """Rounds by chance in which x has a slot."""
    chance = dealer(seed)
    for _ in range(many):
        slots = [chance.choice(("x", "y", None)) for _ in range(chance.randint(1, 8))]
        slots[chance.randrange(len(slots))] = "x"
        yield Round(*slots)


class WaitsTest(Case):

    def rings(self):
        return [*[Round.read(text) for text in RINGS], *dealt_rings(1, 60)]

    def test_waits_from_each_place(self):
        for ring in self.rings():
            for place in range(len(ring)):
                for many in range(8):
                    self.assertEqual(wait_from(ring, "x", place, many), walked_wait(ring.slots, "x", place, many))

    def test_greatest_waits_and_their_least_places(self):
        for ring in self.rings():
            growth = waits(ring, "x")
            for many in range(30):
                told = [walked_wait(ring.slots, "x", place, many) for place in range(len(ring))]
                self.assertEqual(growth(many), max(told))
                if many:
                    self.assertEqual(worst_place(ring, "x", many), told.index(max(told)))

    def test_a_round_of_own_slots_more_is_a_round_of_ticks_more(self):
        for ring in self.rings():
            growth, own = waits(ring, "x"), len(ring.own("x"))
            for many in (*range(1, 40), *FAR):
                self.assertEqual(growth(many + own), growth(many) + len(ring))
            self.assertEqual((growth(0), growth(own)), (0, len(ring)))

    def test_far_off(self):
        for ring in self.rings():
            own, growth = len(ring.own("x")), waits(ring, "x")
            for many in FAR:
                rounds, rest = divmod(many - 1, own)
                told = [rounds * len(ring) + walked_wait(ring.slots, "x", place, rest + 1) for place in range(len(ring))]
                self.assertEqual([wait_from(ring, "x", place, many) for place in range(len(ring))], told)
                self.assertEqual((growth(many), worst_place(ring, "x", many)), (max(told), told.index(max(told))))

    def test_by_name(self):
        ring = Round("a", "b", "b")
        self.assertEqual(wait_from(ring=ring, flow="b", place=2, many=2), 3)
        self.assertEqual(waits(flow="b", ring=ring), Growth((0, 2, 3), (2, 1)))
        self.assertEqual(worst_place(many=2, flow="b", ring=ring), 0)
        self.assertIs(shows_waits(value=waits(ring, "b"), flow="b", ring=ring), True)
        self.assertIs(shows_place(value=2, many=2, flow="b", ring=ring), True)


class LookTest(Case):

    def test_the_right_growth_and_no_other_one(self):
        for ring in [*[Round.read(text) for text in RINGS], *dealt_rings(2, 30)]:
            told = waits(ring, "x")
            self.assertIs(shows_waits(ring, "x", Growth(told.first(60), [told(at) - told(at - 1) for at in range(
                60, 60 + len(ring.own("x")))])), True)
            self.assertIs(shows_waits(ring, "x", told), True)
            for wrong in self.wrong_growths(told):
                self.assertIs(shows_waits(ring, "x", wrong), wrong == told)

    def wrong_growths(self, told):
        """Growths with a told value or a gain otherwise, shifted, wrong at 0 alone, or far off alone."""
        for at in range(len(told.told)):
            yield Growth([value + (at == place) for place, value in enumerate(told.told)], told.gains)
        for at in range(len(told.gains)):
            yield Growth(told.told, [value + (at == place) for place, value in enumerate(told.gains)])
        yield told.shifted(1)
        yield Growth([1, *told.first(30)[1:]], [told(at) - told(at - 1) for at in range(30, 30 + len(told.gains))])
        yield Growth(told.first(40), told.gains[1:] + told.gains[:1])
        yield Growth((*told.first(300), told(300) + 1), (told(301) - told(300),))
        yield Growth(told.first(2000), (0,))
        yield 2 * told
        yield Growth.constant(0)

    def test_growths_of_other_rounds(self):
        rings = [Round.read(text) for text in RINGS]
        for ring in rings:
            for other in rings:
                for flow in other.flow_names():
                    value = waits(other, flow)
                    wanted = value.first(100) == waits(ring, "x").first(100)
                    self.assertIs(shows_waits(ring, "x", value), wanted)

    def test_each_worst_place_and_no_other_one(self):
        for ring in [*[Round.read(text) for text in RINGS], *dealt_rings(3, 40)]:
            for many in (1, 2, 3, 7, 100):
                told = [walked_wait(ring.slots, "x", place, many) for place in range(len(ring))]
                found = [shows_place(ring, "x", many, place) for place in range(len(ring))]
                self.assertEqual(found, [one == max(told) for one in told])
                self.assertIs(shows_place(ring, "x", many, -1), False)
                self.assertIs(shows_place(ring, "x", many, len(ring)), False)
            self.assertIs(shows_place(ring, "x", 10 ** 30, worst_place(ring, "x", 10 ** 30)), True)

    def test_values_of_all_kinds(self):
        ring = Round("x")
        for value in [*any_values(), "x", ring, "0 then 1"]:
            self.assertIs(shows_waits(ring, "x", value), False)
            self.assertIs(shows_place(ring, "x", 1, value), False)
        self.assertIs(shows_place(ring, "x", 1, 0), True)
        self.assertIs(shows_place(Round("x", "x"), "x", 1, True), False)


class RefusedTest(Case):

    def works(self):
        """All functions on waits, with the arguments behind ring and flow."""
        return ((wait_from, (0, 1)), (waits, ()), (worst_place, (1,)), (shows_waits, (None,)), (shows_place, (1, None)))

    def test_rounds_flows_and_names(self):
        for work, rest in self.works():
            for value in [*any_values(), "x", ("x",)]:
                self.refused(("BadRound", "round"), work, value, value, *rest)
                if value not in ("x",):
                    self.refused(("BadName", value), work, Round("x"), value, *rest)
            for flow in ("y", "xx", "abcdefgh"):
                self.refused(("NoFlow", flow), work, Round("x", None), flow, *rest)

    def test_numbers(self):
        ring = Round("x", None)
        for value in [*any_values(), 2]:
            self.refused(("BadNumber", value), wait_from, ring, "x", value, -1)
        for value in [*any_values(), 10 ** 30 + 1]:
            self.refused(("BadNumber", value), wait_from, ring, "x", 1, value)
        for value in [*any_values(), 0, 10 ** 30 + 1]:
            self.refused(("BadNumber", value), worst_place, ring, "x", value)
            self.refused(("BadNumber", value), shows_place, ring, "x", value, 0)
        self.assertEqual((wait_from(ring, "x", 0, 0), wait_from(ring, "x", 1, 0)), (0, 0))

    def test_the_first_error_is_told(self):
        self.refused(("BadRound", "round"), wait_from, 1, 2, 3, True)
        self.refused(("BadName", "X"), wait_from, Round("y"), "X", 3, True)
        self.refused(("NoFlow", "x"), wait_from, Round("y"), "x", 3, True)
        self.refused(("BadNumber", 3), wait_from, Round("x"), "x", 3, True)
        self.refused(("NoFlow", "x"), worst_place, Round("y"), "x", 0)
        self.refused(("NoFlow", "x"), shows_place, Round("y"), "x", 0, 0)
