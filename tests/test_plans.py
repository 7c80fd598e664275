"""Plans and phases: made, asked, refused, read."""

from layerpost.plans import Phase, Plan
from tests.helpers import Case, any_values, dealer, error_of

ROW, MUTE = Phase(), Phase(mute=True)
SUMS = [(1,), (2,), (1, 2), (3, 4), (1, 2, 3, 4)]


def dealt_plan(chance, most=4, most_sums=3):
    """A plan by chance."""
    while True:
        phases = []
        for _ in range(chance.randint(1, most)):
            sums = {tuple(sorted(chance.sample((1, 2, 3, 4), chance.randint(1, 3))))
                    for _ in range(chance.randrange(most_sums + 1))}
            phases.append(Phase(*sums, mute=chance.random() < 0.25))
        if error_of(Plan, *phases) is None:
            return Plan(*phases)


class PhaseTest(Case):

    def test_sums_ascend_as_tuples(self):
        phase = Phase((3,), (2, 4), (1,), (1, 4))
        self.assertEqual(phase.sums, ((1,), (1, 4), (2, 4), (3,)))
        self.assertEqual(phase, Phase((1,), (3,), (1, 4), (2, 4)))
        self.assertEqual((ROW.sums, ROW.mute, MUTE.mute), ((), False, True))
        self.assertNotEqual(ROW, MUTE)
        self.assertNotEqual(Phase((1,)), Phase((2,)))
        for value in any_values():
            self.assertFalse(ROW == value)

    def test_refused(self):
        for value in [*any_values(), [1], (0,), (5,), (1, 1), (2, 1), (1, 2, 3, 4, 4), (1, True), ("1",), 1, (1, None),
                      (-1, 1), ((1,),)]:
            if value != (1,) or isinstance(value[0], bool):
                self.refused(("BadPlan", 0), Phase, value, mute=None)
                self.refused(("BadPlan", 2), Phase, (2,), (3,), value, value, (1,), (2, 3))
        self.refused(("BadPlan", 2), Phase, (1,), (2,), (1,), mute=7)
        self.refused(("BadPlan", "sums"), Phase, *SUMS, mute=7)
        self.refused(("BadPlan", 5), Phase, *SUMS, (2,))
        self.assertEqual(len(Phase(*SUMS[:4]).sums), 4)
        for value in any_values():
            if not isinstance(value, bool):
                self.refused(("BadPlan", "mute"), Phase, (1,), mute=value)
        self.refused(("BadPlan", "mute"), Phase, mute=1)


class PlanTest(Case):

    def test_phases_that_come_round(self):
        phases = [Phase((1,)), ROW, Phase((2, 3))]
        plan = Plan(*phases)
        self.assertEqual((plan.phases, len(plan), list(plan)), (tuple(phases), 3, phases))
        for n in (0, 1, 2, 3, 7, 10 ** 40):
            self.assertEqual(plan[n], phases[n % 3])
        for value in [*any_values(), -1]:
            if value != 10 ** 40 + 1 or isinstance(value, bool):
                self.refused(("NoPhase", value), lambda: plan[value])
        self.assertEqual(plan, Plan(*phases))
        self.assertNotEqual(plan, Plan(*phases[::-1]))
        self.assertNotEqual(Plan(ROW), Plan(ROW, ROW))
        for value in any_values():
            self.assertFalse(plan == value)

    def test_refused(self):
        for value in any_values():
            self.refused(("BadPlan", 0), Plan, value, value)
            self.refused(("BadPlan", 4), Plan, MUTE, MUTE, MUTE, MUTE, value)
        self.refused(("BadPlan", "phases"), Plan)
        self.refused(("BadPlan", "phases"), Plan, *[MUTE] * 5)
        self.refused(("BadPlan", "mute"), Plan, MUTE)
        self.refused(("BadPlan", "mute"), Plan, Phase((1,), mute=True), MUTE)
        self.assertEqual(len(Plan(*[ROW] * 4)), 4)

    def test_sums_of_mute_slots(self):
        self.refused(("BadPlan", 0), Plan, Phase((1,)), MUTE)
        self.refused(("BadPlan", 1), Plan, ROW, Phase((2,), mute=True))
        self.refused(("BadPlan", 2), Plan, ROW, MUTE, Phase((1, 2)), Phase((2, 3)))
        self.refused(("BadPlan", 3), Plan, ROW, MUTE, Phase((2, 4)), Phase((2, 3)))
        self.refused(("BadPlan", 3), Plan, ROW, MUTE, ROW, Phase((3,), (2,)))
        self.refused(("BadPlan", 0), Plan, Phase((4,), mute=True), ROW, ROW, ROW)
        self.assertEqual(len(Plan(ROW, Phase((1, 3), mute=True))), 2)
        self.assertEqual(len(Plan(Phase((2, 4)), MUTE)), 2)
        chance = dealer(1)
        for _ in range(300):
            phases = [Phase((chance.randint(1, 4),), mute=chance.random() < 0.4) for _ in range(chance.randint(1, 4))]
            bad = [at for at, phase in enumerate(phases) if phases[(at - phase.sums[0][0]) % len(phases)].mute]
            found = error_of(Plan, *phases)
            if all([phase.mute for phase in phases]):
                self.assertEqual(found, ("BadPlan", "mute"))
            else:
                self.assertEqual(found, ("BadPlan", bad[0]) if bad else None)

    def test_named_plans(self):
        self.assertEqual(Plan.plain(), Plan(ROW))
        self.assertEqual(Plan.copies(2, 1), Plan(Phase((1,), (2,))))
        self.assertEqual(Plan.copies(), Plan.plain())
        self.assertEqual(Plan.copies(1, 2, 3, 4).phases[0].sums, ((1,), (2,), (3,), (4,)))
        for size, text in ((1, "row / mute 1"), (2, "row / row / mute 1+2"), (3, "row / row / row / mute 1+2+3")):
            self.assertEqual(str(Plan.groups(size=size)), text)
        for value in any_values():
            self.refused(("BadPlan", 1), Plan.copies, 1, value)
        for ages, part in (((0,), 0), ((5,), 0), ((1, 2, 1), 2), ((1, 2, 3, 4, 4), 4), ((1, (2,)), 1), ((True,), 0)):
            self.refused(("BadPlan", part), Plan.copies, *ages)
        for value in [*any_values(), 0, 4]:
            self.refused(("BadPlan", "size"), Plan.groups, value)


class TextsTest(Case):

    def test_there_and_back(self):
        chance = dealer(2)
        for _ in range(300):
            plan = dealt_plan(chance, 4, 4)
            self.assertEqual(Plan.read(str(plan)), plan)
        for text in ("row", "row 1 2+3 / mute 2 4", "row 1+2+3+4 1+3 2 3+4", "row / row / mute 1+2"):
            if error_of(Plan.read, text) is None:
                self.assertEqual(str(Plan.read(text=text)), text)

    def test_words_that_cannot_stand(self):
        for text, word in (
                ("", 0), ("rows", 0), ("1", 0), ("/ row", 0), ("row ", 1), ("row mute", 1), ("row  1", 1), ("row 0", 1),
                ("row 5", 1), ("row 2+1", 1), ("row 1+1", 1), ("row 1+", 1), ("row +1", 1), ("row +", 1), ("row 12", 1),
                ("row 1,2", 1), ("row 01", 1), ("row 2 1", 2), ("row 1 1", 2), ("row 1+2 1", 2), ("row 2 1+3", 2),
                ("row 1 1+3 1+2", 3), ("row 1 2 3 4 1", 5), ("row 1 1+2 1+3 1+4 2", 5), ("row 1 2 /", 4), ("row /", 2),
                ("row / ", 2), ("row / /", 2), ("row / 1", 2), ("row / row / row / row /", 7), ("row / row / row / row 1 /", 8),
                ("row / row / row / row / row", 7), ("row 1 / mute 2 x", 5), ("mute /", 2)):
            self.refused(("BadText", 0, word), Plan.read, text)

    def test_then_what_the_class_raises(self):
        for text, part in (("mute", "mute"), ("mute 1 / mute", "mute"), ("row 1 / mute", 0), ("row / mute / row 1+2", 2)):
            self.refused(("BadPlan", part), Plan.read, text)

    def test_what_is_no_string(self):
        for value in any_values():
            self.refused(("BadText", 0, 0), Plan.read, value)
