"""Stacks: their hops against a walk of all letters, phases and places."""

from itertools import product

from layerpost.frames import FrameRule
from layerpost.growths import Growth
from layerpost.hops import hop_growth
from layerpost.longest import most_cells
from layerpost.losses import Burst, MachineRule, Total
from layerpost.plans import Phase, Plan
from layerpost.rounds import Round
from layerpost.stacks import Stack
from tests.helpers import Case, any_values
from tests.sums import delays_of
from tests.test_bounds import FRAMES, LINES, RINGS
from tests.test_frames import HDLC, LOOP, SHORT
from tests.test_hops import walked_hop

PARTS = "frames size plan rule ring flow travel".split()


def stack(**parts):
    """The stack of the document, with some parts otherwise."""
    told = {"frames": SHORT, "size": 4, "plan": Plan.copies(1), "rule": Burst(1, 1), "ring": Round("a", "b", "b"), "flow": "a",
            "travel": 2, **parts}
    return Stack(**told)


def walked(told, length):
    """The greatest ticks over all letters of a mark and so many bits, over all phases and places."""
    delays = delays_of(str(told.plan), str(told.rule))
    slots = ["x" if slot == told.flow else None for slot in told.ring.slots]
    frames = [told.frames.frame("".join(signs)) for signs in product("01", repeat=length + 1)]
    cells = {-(-len(frame) // told.size) for frame in frames}
    return max([walked_hop(told.plan, delays, slots, told.travel, place, phase, many)
                for many in cells for place in range(len(slots)) for phase in range(len(delays))])


class StackTest(Case):

    def stacks(self):
        for at, (plan, rule) in enumerate(LINES):
            for step, frames in enumerate(FRAMES):
                ring = Round.read(RINGS[(at + step) % len(RINGS)])
                yield stack(frames=frames, size=(1, 3, 4, 8, 32)[(at + 2 * step) % 5], plan=plan, rule=rule, ring=ring, flow="x",
                            travel=at % 3)

    def test_hops_against_a_walk(self):
        for told in self.stacks():
            self.assertIsInstance(told.hop, Growth)
            for length in range(5):
                self.assertEqual(told.hop(length), walked(told, length))

    def test_hops_far_off(self):
        for told in self.stacks():
            growth = hop_growth(told.plan, told.rule, told.ring, told.flow, told.travel)
            cells = most_cells(told.frames, told.size)
            for length in (7, 199, 10 ** 6, 10 ** 30):
                self.assertEqual(told.hop(length), growth(cells(length + 1)))
                self.assertEqual(told.delay_of(length), told.hop(length))
                self.assertEqual(told.delay_of(lanes=1000, length=length), 1000 * told.hop(length))

    def test_attributes(self):
        values = {"frames": HDLC, "size": 9, "plan": Plan.plain(), "rule": Total(0), "ring": Round("q", None), "flow": "q", "travel": 7}
        told = Stack(*values.values())
        self.assertEqual({name: getattr(told, name) for name in PARTS}, values)
        self.assertEqual(told, Stack(**values))
        self.assertEqual(Stack(*list(values.values())[:6]).travel, 0)

    def test_but_and_equal(self):
        one = stack()
        others = {"frames": HDLC, "size": 5, "plan": Plan.copies(1, 2), "rule": Total(0), "ring": Round("a", "b"), "flow": "b", "travel": 3}
        rows = [one, *[one.but(**{name: value}) for name, value in others.items()]]
        for at, left in enumerate(rows):
            for place, right in enumerate(rows):
                self.assertEqual(left == right, at == place)
        for name, value in others.items():
            self.assertEqual(getattr(one.but(**{name: value}), name), value)
            self.assertEqual(one.but(**{name: value}), stack(**{name: value}))
            self.assertEqual(one.but(**{name: value}).but(**{name: getattr(one, name)}), one)
        self.assertEqual(one.but(), one)
        self.assertEqual(one.but(**others), stack(**others))
        self.assertEqual(one, stack())
        # Equal parts, told otherwise.
        self.assertEqual(one, stack(rule=MachineRule((0, 1), (0, None)), plan=Plan(Phase((1,)))))
        for value in [*any_values(), Round("a")]:
            self.assertFalse(one == value)

    def test_refused_parts_in_order(self):
        good = {"frames": SHORT, "size": 4, "plan": Plan.copies(1), "rule": Burst(1, 1), "ring": Round("a", "b", "b"), "flow": "a",
                "travel": 2}
        for value in any_values():
            for at, name in enumerate(PARTS):
                if isinstance(value, FrameRule) and name == "frames":
                    continue
                told = {part: good[part] if place < at else value for place, part in enumerate(PARTS)}
                self.refused(("BadStack", name), Stack, **told)
                self.refused(("BadStack", name), stack().but, **{name: value})
        for name, values in (("size", (0, 33)), ("travel", (-1, 1001)), ("flow", ("c", "", "ab")), ("rule", (MachineRule((1, 0), (1, None)),))):
            for value in values:
                self.refused(("BadStack", name), stack, **{name: value})
        self.assertFalse(MachineRule((1, 0), (1, None)).is_calm)
        for size in (1, 32):
            self.assertEqual(stack(size=size).size, size)
        for travel in (0, 1000):
            self.assertEqual(stack(travel=travel).hop(0) - travel, stack(travel=0).hop(0))

    def test_names_that_are_no_parts(self):
        told = stack()
        for name in ("hop", "mark", "Frames", "travels"):
            self.refused(("BadStack", name), told.but, **{name: 1})
            self.refused(("BadStack", name), told.but, **{"size": 99, name: 1})
            self.refused(("BadStack", name), told.but, **{name: 1, "size": 99, "more": 1})
        self.refused(("BadStack", "size"), told.but, travel=-1, size=99)

    def test_lines_that_do_not_repair(self):
        for plan, rule in ((Plan.plain(), Total(1)), (Plan.copies(1), Burst(2, 2)), (Plan.groups(2), Total(2))):
            self.refused(("BadStack", "line"), stack, plan=plan, rule=rule)
            self.refused(("BadStack", "line"), stack, plan=plan, rule=rule, frames=LOOP)
            self.refused(("BadStack", "travel"), stack, plan=plan, rule=rule, travel=-1)

    def test_frame_rules(self):
        self.refused(("Clashing", "puts"), stack, frames=LOOP)
        self.refused(("Clashing", "flag"), stack, frames=FrameRule("01"))
        self.assertIsInstance(stack(frames=FrameRule("111", ("11", "0"))), Stack)

    def test_growths_with_too_many_gains(self):
        # 23 own slots of 24, 29 cells in a round of gains of the frames.
        watch = FrameRule("01111111", ("0111111", "0"))
        self.refused(("TooMany", "gains", 2000), stack, frames=watch, size=29, ring=Round(None, *["a"] * 23), plan=Plan.plain(), rule=Total(0))

    def test_numbers(self):
        told = stack()
        for value in [*any_values(), 10 ** 30 + 1]:
            self.refused(("BadNumber", value), told.delay_of, value)
            self.refused(("BadNumber", value), told.delay_of, value, "lanes")
            self.refused(("BadNumber", value), told.delay_of, 0, value)
        self.refused(("BadNumber", 0), told.delay_of, 0, 0)
        self.refused(("BadNumber", 1001), told.delay_of, 0, 1001)
        self.refused(("BadNumber", -1), told.delay_of, -1, 0)
        self.assertEqual(told.delay_of(0, 1000), 8000)
        self.assertGreater(told.delay_of(10 ** 30), 10 ** 30)
