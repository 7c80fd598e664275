"""Rounds: made, asked, joined, refused, read."""

from layerpost.rounds import Round
from tests.helpers import Case, any_values, dealer


def dealt_slots(chance, most=6):
    """Slots by chance."""
    return [chance.choice((None, "a", "b", "long", "abcdefgh")) for _ in range(chance.randint(1, most))]


class RoundTest(Case):

    def test_slots(self):
        chance = dealer(1)
        for _ in range(200):
            slots = dealt_slots(chance)
            ring = Round(*slots)
            many = len(slots)
            self.assertEqual((ring.slots, len(ring), list(ring)), (tuple(slots), many, slots))
            self.assertEqual([ring[place] for place in range(many)], slots)
            for tick in (*range(-2 * many, 2 * many), 10 ** 40, -(10 ** 40)):
                self.assertEqual(ring(tick), slots[tick % many])
            for flow in ("a", "b", "long", "abcdefgh", "z"):
                self.assertEqual(ring.own(flow), tuple([at for at in range(many) if slots[at] == flow]))
                self.assertIs(flow in ring, flow in slots)
            self.assertEqual(ring.flow_names(), tuple(sorted({slot for slot in slots if slot})))
        self.assertEqual((Round.MOST, Round("a")(tick=5), Round("a").own(flow="a")), (24, "a", (0,)))

    def test_in(self):
        ring = Round("a", None)
        for value in any_values():
            self.assertIs(value in ring, False)
        self.assertIs("a" in ring, True)
        self.assertIs(("a",) in ring, False)

    def test_joined(self):
        chance = dealer(2)
        for _ in range(100):
            one, other = dealt_slots(chance), dealt_slots(chance)
            first, second = Round(*one), Round(*other)
            self.assertEqual((first + second).slots, (*one, *other))
            for many in (1, 2, 4):
                self.assertEqual((first * many).slots, tuple(one * many))
                self.assertEqual(many * first, first * many)
            for many in (0, 1, 5, len(one), 10 ** 20):
                begin = many % len(one)
                self.assertEqual((first << many).slots, tuple(one[begin:] + one[:begin]))
            for place in range(len(one)):
                slot = chance.choice((None, "q"))
                wanted = [slot if at == place else old for at, old in enumerate(one)]
                self.assertEqual(list(first.with_slot(place, slot)), wanted)
            self.assertEqual((first.slots, second.slots), (tuple(one), tuple(other)))

    def test_equal_and_like(self):
        chance = dealer(3)
        for _ in range(200):
            one, other = dealt_slots(chance, 4), dealt_slots(chance, 4)
            self.assertIs(Round(*one) == Round(*other), one == other)
            turns = [one[at:] + one[:at] for at in range(len(one))]
            self.assertIs(Round(*one).is_like(other=Round(*other)), other in turns)
            for turn in turns:
                self.assertIs(Round(*one).is_like(Round(*turn)), True)
        self.assertFalse(Round("a").is_like(Round("a", "a")))
        for value in any_values():
            self.assertFalse(Round("a") == value)

    def test_in_place_the_name_is_bound_to_the_result(self):
        ring = first = Round("a", None)
        ring += Round("b")
        self.assertEqual((str(ring), str(first)), ("a - b", "a -"))
        ring *= 2
        self.assertEqual(str(ring), "a - b a - b")
        ring <<= 1
        self.assertEqual((str(ring), str(first)), ("- b a - b a", "a -"))

    def test_twenty_four_and_twenty_five_slots(self):
        full = Round(*["a"] * 24)
        self.assertEqual(len(full), 24)
        self.assertEqual([len(Round("a") * 24), len(4 * Round(*"abcdef")), len(full << 23)], [24, 24, 24])
        for work in (lambda: Round(*["a"] * 25), lambda: full + Round("b"), lambda: full * 2, lambda: 5 * Round(*"abcde"),
                     lambda: Round(*"abcdefghijklm") * 24):
            self.refused(("TooMany", "slots", 24), work)
        self.refused(("BadRound", 25), Round, *["a"] * 25, "B")


class RefusedTest(Case):

    def test_slots(self):
        self.refused(("BadRound", "slots"), Round)
        for value in [*any_values(), "", "abcdefghi", "-", "a b", "a1"]:
            if value is not None:
                self.refused(("BadRound", 2), Round, "a", None, value, value)

    def test_places_numbers_and_names(self):
        ring = Round("a", "b", None)
        for value in [*any_values(), 3]:
            self.refused(("BadNumber", value), lambda: ring[value])
            self.refused(("BadNumber", value), ring.with_slot, value, 5)
        for value in any_values():
            if isinstance(value, bool) or not isinstance(value, int):
                self.refused(("BadNumber", value), ring, value)
            if value != 10 ** 40 + 1 or isinstance(value, bool):
                self.refused(("BadNumber", value), lambda: ring << value)
            self.refused(("BadName", value), ring.own, value)
            if value is not None:
                self.refused(("BadName", value), ring.with_slot, place=1, flow=value)
        for value in [*any_values(), 0, 25]:
            self.refused(("BadNumber", value), lambda: ring * value)
            if not hasattr(value, "__mul__") or isinstance(value, (int, str, tuple, list)):
                self.refused(("BadNumber", value), lambda: value * ring)

    def test_others(self):
        for value in any_values():
            self.refused(("BadRound", "other"), lambda: Round("a") + value)
            self.refused(("BadRound", "other"), Round("a").is_like, value)


class TextsTest(Case):

    def test_there_and_back(self):
        chance = dealer(4)
        for _ in range(200):
            ring = Round(*dealt_slots(chance, 24))
            self.assertEqual(Round.read(str(ring)), ring)
        self.assertEqual(str(Round.read(text="- abcdefgh -")), "- abcdefgh -")

    def test_words_that_cannot_stand(self):
        for text, word in (("", 0), (" ", 0), ("a ", 1), (" a", 0), ("a  b", 1), ("A", 0), ("a b1", 1), ("a - --", 2),
                           ("abcdefghi", 0), ("a\n", 0), ("None", 0), ("a " * 24, 24), ("a " * 25 + "B", 24),
                           ("- " * 24 + "-", 24)):
            self.refused(("BadText", 0, word), Round.read, text)
        self.assertEqual(len(Round.read("a " * 23 + "a")), 24)

    def test_what_is_no_string(self):
        for value in any_values():
            # Of these values one is the text of a round.
            if value != "x y":
                self.refused(("BadText", 0, 0), Round.read, value)
