"""Errors, verdicts and checks."""

import inspect

import layerpost.errors
from layerpost import checks
from layerpost.bounds import Alarm, Met, Sound
from layerpost.errors import PostError
from layerpost.compared import Better, Worse
from layerpost.events import Event
from layerpost.exchange import Ranks
from layerpost.follow import Journey
from layerpost.frames import Right, Wrong
from layerpost.least_stacks import Least
from layerpost.longest import Longest
from layerpost.paces import Endless, Steady
from layerpost.pairs import Broken, Once
from layerpost.repair import Closed, Never, Worst
from layerpost.routes import Apart, Cut
from layerpost.tables import Leads, Ring, Stops
from layerpost.verdicts import Verdict
from tests.helpers import Case, any_values

FIELDS = {
    "BadGrowth": ["part"], "BadLetter": ["value"], "BadFrame": ["part"], "BadCell": ["part"], "BadPlan": ["part"],
    "BadRule": ["part"], "BadLosses": ["value"], "BadRound": ["part"], "BadNet": ["part"], "BadTable": ["part"],
    "BadPair": ["part"], "BadStack": ["part"], "BadRun": ["part"], "BadPlay": ["part"], "BadNumber": ["value"],
    "BadText": ["line", "word"], "BadCommand": ["word"], "BadName": ["value"], "NoName": ["name"],
    "NoFlow": ["name"], "NoHouse": ["name"], "NoLink": ["name"], "NoLane": ["key"], "NoLine": ["key"],
    "NoPhase": ["at"], "Clashing": ["part"], "Nothing": [], "TooMany": ["what", "most"],
}


class ErrorsTest(Case):

    def test_these_classes_and_no_others(self):
        found = dict(inspect.getmembers(layerpost.errors, inspect.isclass))
        self.assertEqual(set(found), set(FIELDS) | {"PostError"})
        self.assertEqual(PostError.__bases__, (ValueError,))

    def test_each_is_directly_below_the_base(self):
        for name in FIELDS:
            kind = getattr(layerpost.errors, name)
            self.assertEqual(kind.__bases__, (PostError,), name)
            self.assertEqual(kind.__module__, "layerpost.errors")

    def test_fields_by_position_and_by_name(self):
        values = any_values()
        for name, fields in FIELDS.items():
            kind = getattr(layerpost.errors, name)
            for at in range(len(values)):
                told = [values[(at + step) % len(values)] for step in range(len(fields))]
                for error in (kind(*told), kind(**dict(zip(fields, told)))):
                    self.assertEqual(list(vars(error)), fields)
                    for field, value in zip(fields, told):
                        self.assertIs(getattr(error, field), value)

    def test_another_number_of_fields(self):
        for name, fields in FIELDS.items():
            if fields:
                kind = getattr(layerpost.errors, name)
                with self.assertRaises(TypeError):
                    kind(*range(len(fields) + 1))
                with self.assertRaises(TypeError):
                    kind()

    def test_caught_by_its_own_class_alone(self):
        for name, fields in FIELDS.items():
            error = getattr(layerpost.errors, name)(*fields)
            self.assertIsInstance(error, ValueError)
            for other in FIELDS:
                self.assertEqual(isinstance(error, getattr(layerpost.errors, other)), other == name)

    def test_verdicts(self):
        for yes, no in ((Right, Wrong), (Closed, Never), (Apart, Cut), (Leads, Ring), (Leads, Stops), (Ranks, Ring),
                        (Once, Broken), (Steady, Endless), (Sound, Alarm), (Better, Worse)):
            self.assertEqual([kind.__mro__[1] for kind in (yes, no)], [Verdict, Verdict])
            made = [kind(*range(len(inspect.signature(kind).parameters))) for kind in (yes, no)]
            self.assertEqual([bool(paper) for paper in made], [True, False])
        self.assertFalse([kind for kind in (Longest, Worst, Journey, Met, Event, Least) if issubclass(kind, Verdict)])


class ChecksTest(Case):

    def test_integers(self):
        for value in (0, 1, -1, 10 ** 41):
            self.assertIs(checks.is_integer(value), True)
        for value in (True, False, None, "1", (1,), [1], {1: 1}):
            self.assertIs(checks.is_integer(value), False)

    def test_bounds(self):
        found = [checks.is_within(value, 2, 4) for value in (1, 2, 3, 4, 5)]
        self.assertEqual(found, [False, True, True, True, False])
        for value in (True, False, None, "0", [0]):
            self.assertIs(checks.is_within(value, 0, 1), False)
        self.assertIs(checks.is_within(value=-3, least=-3, most=-3), True)
        self.assertIs(checks.is_within(3, 4, 2), False)

    def test_names(self):
        for value in ("a", "z", "abcdefgh", "qqqqqqqq"):
            self.assertIs(checks.is_name(value), True)
        for value in ("", "abcdefghi", "A", "a1", "a b", "a-", "-a", "a\n", "a.b", ["a"], None, ("a",), 1):
            self.assertIs(checks.is_name(value), False)

    def test_signs_and_letters(self):
        for value in ("", "0", "1", "0110", "01" * 100):
            self.assertIs(checks.is_signs(value), True)
            self.assertIs(checks.is_letter(value), True)
        for value in ("2", "0 1", "01\n", "x", "0x1", None, 0, 1, True, ["0"], ("0", "1")):
            self.assertIs(checks.is_signs(value), False)
            self.assertIs(checks.is_letter(value), False)

    def test_the_longest_letter(self):
        self.assertIs(checks.is_letter("1" * 200), True)
        self.assertIs(checks.is_letter("1" * 201), False)
        self.assertIs(checks.is_signs("1" * 201), True)

    def test_values_of_all_kinds_are_told(self):
        for value in any_values():
            for check in (checks.is_integer, checks.is_name, checks.is_signs, checks.is_letter):
                self.assertIn(check(value), (True, False))
            self.assertIs(checks.is_name(value), False)
            self.assertIs(checks.is_letter(value), False)
            self.assertIs(checks.is_within(value, 0, 10 ** 40), False)
