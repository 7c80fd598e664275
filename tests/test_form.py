"""The form of the package: LANGUAGE.md, as far as a reading of the code can see it."""

import ast
import os
import unittest

from tests.form import complaints

HERE = os.path.dirname(os.path.abspath(__file__))
FOLDER = os.path.join(os.path.dirname(HERE), "layerpost")

# What the interface lists, file by file: functions by name, classes with their own methods.
INTERFACE = {
    "errors.py": {name: [] for name in """PostError BadGrowth BadLetter BadFrame BadCell BadPlan BadRule BadLosses BadRound
        BadNet BadTable BadPair BadStack BadRun BadPlay BadNumber BadText BadCommand BadName NoName NoFlow NoHouse NoLink
        NoLane NoLine NoPhase Clashing Nothing TooMany""".split()},
    "verdicts.py": {"Verdict": []},
    "checks.py": dict.fromkeys("is_integer is_within is_name is_signs is_letter".split()),
    "growths.py": {"Growth": """__init__ __eq__ __call__ first __add__ __or__ __and__ __mul__ __rmul__ after shifted
        first_above at_most first_over is_rising rate constant ramp steps summed __str__ read""".split()},
    "frames.py": {
        "FrameRule": "__init__ simple body frame puts letter_of __eq__ __str__ read all_states next_state".split(),
        "Right": "__init__ __bool__ __eq__".split(), "Wrong": "__init__ __bool__ __eq__".split(),
        "rightness": None, "shows_right": None},
    "longest.py": {"Longest": ["__init__", "__eq__"], "longest_frames": None, "longest_letter": None, "most_cells": None,
                   "longest_paper": None},
    "look_longest.py": {"shows_longest": None},
    "cells.py": dict.fromkeys("cells_of frame_of".split()),
    "losses.py": {"LossRule": "__eq__ is_calm lets __and__ __or__ within __str__ read".split(), "MachineRule": ["__init__"],
                  "Total": ["__init__"], "Burst": ["__init__"]},
    "plans.py": {"Phase": ["__init__", "__eq__"],
                 "Plan": "__init__ __len__ __iter__ __getitem__ __eq__ plain copies groups __str__ read".split()},
    "spaces.py": {"Space": "__init__ __eq__ heard knows opened picked".split()},
    "repair.py": {"Closed": "__init__ __bool__ __eq__".split(), "Never": "__init__ __bool__ __eq__".split(),
                  "Worst": ["__init__", "__eq__"], "known_at": None, "repaired": None, "phase_delays": None,
                  "worst_losses": None, "slots_needed": None},
    "look_repair.py": dict.fromkeys("shows_repaired shows_worst".split()),
    "waits.py": dict.fromkeys("wait_from waits worst_place".split()),
    "look_waits.py": dict.fromkeys("shows_waits shows_place".split()),
    "least_round.py": dict.fromkeys("keeps least_round spare_slots".split()),
    "nets.py": {"Lane": "__init__ carries __eq__".split(), "Flow": ["__init__", "__eq__"],
                "Link": "__init__ far_end lane_from __contains__ __eq__".split(),
                "Net": """__init__ link_named flow_named between near __contains__ __len__ __iter__ __or__ __sub__
                    __eq__""".split()},
    "routes.py": {"Apart": "__init__ __bool__ __eq__".split(), "Cut": "__init__ __bool__ __eq__".split(),
                  **dict.fromkeys("is_way lanes_on lanes_back apart".split())},
    "marks.py": {"Sender": "__init__ sends hears turns __eq__ __str__".split(),
                 "Receiver": "__init__ takes __eq__".split()},
    "pairs.py": {"Pair": "__init__ parts but __eq__ __str__ read".split(), "Once": "__init__ __bool__ __eq__".split(),
                 "Broken": "__init__ __bool__ __eq__".split(),
                 **dict.fromkeys("events first_stand played once least_marks".split())},
    "paces.py": {"Steady": "__init__ __bool__ __eq__".split(), "Endless": "__init__ __bool__ __eq__".split(),
                 "steady": None},
    "tables.py": {"Tables": "__init__ __getitem__ __len__ __iter__ laid __or__ __eq__ of".split(), "leads": None,
                  **{name: "__init__ __bool__ __eq__".split() for name in ("Leads", "Ring", "Stops")}},
    "exchange.py": {"Bench": "__init__ offer give turn drop hue_of next_house undo deeds __eq__".split(),
                    "Ranks": "__init__ __bool__ __eq__".split(), **dict.fromkeys("mixed any_order safe_order".split())},
    "look_tables.py": dict.fromkeys("shows_apart shows_any_order".split()),
    "look_pairs.py": dict.fromkeys("shows_once shows_steady".split()),
    "hops.py": {"hop_growth": None},
    "runs.py": {"Fall": "__init__ __eq__ __str__ read".split(),
                "Run": """__init__ place_of phase_of losses_of contents_of told_lanes told_lines with_place with_line
                    with_contents with_fall on_net joined __eq__""".split()},
    "follow.py": {"Journey": ["__init__", "__eq__"], **dict.fromkeys("passage followed".split())},
    "bounds.py": {"Sound": "__init__ __bool__ __eq__".split(), "Alarm": "__init__ __bool__ __eq__".split(),
                  "Met": ["__init__", "__eq__"],
                  **dict.fromkeys("""cells_growth lane_growth way_growth answer_ticks round_trip lane_shares answer_shares
                      greatest_delay sound worst_run exchange_ticks""".split())},
    "look_bounds.py": dict.fromkeys("shows_sound shows_met".split()),
    "events.py": {"Event": "__init__ __eq__ __str__".split()},
    "streams.py": {"Stream": "__init__ taking behind cell_count is_idle __eq__".split()},
    "parcels.py": {},
    "player.py": {"Player": """__init__ advance go send clock is_idle handed ticks_of waiting way_of hue_of places_of events offer
        give turn drop undo deeds trial tried attempt twin __eq__""".split()},
    "stacks.py": {"Stack": "__init__ delay_of but __eq__".split()},
    "compared.py": {"Better": "__init__ __bool__ __eq__".split(), "Worse": "__init__ __bool__ __eq__".split(),
                    **dict.fromkeys("better from_on order".split())},
    "look_compared.py": {"shows_better": None},
    "least_stacks.py": {"Wish": "__init__ keeps __eq__".split(), "Least": ["__init__", "__eq__"],
                        **dict.fromkeys("spread least_share greatest_length frontier".split())},
    "seen.py": {"Seen": "__init__ first_beyond __len__ __iter__ __eq__".split(), **dict.fromkeys("tightest least_travel".split())},
    "texts.py": dict.fromkeys("net_text tables_text run_text stack_text".split()),
    "reader.py": dict.fromkeys("read_net read_tables read_run read_stack".split()),
    "desk.py": {"Desk": "__init__ say __call__ say_all net_now laid_tables run_now play_now __len__ trial tried".split()},
    "desk_lines.py": {},
    "rounds.py": {"Round": """__init__ __len__ __iter__ __contains__ __getitem__ __call__ own flow_names __add__ __mul__
        __rmul__ __lshift__ with_slot __eq__ is_like __str__ read""".split()},
}

# A line that breaks a rule, and the rule: the test of the form itself.
BROKEN = (
    ("import math", "L2"), ("from os import path", "L2"), ("from math import sin", "L2"),
    ("from itertools import product", "L2"), ("from layerpost.there import there as other", "L2"),
    ("from layerpost.there import gone", "L16"), ("from layerpost.here import f", "L16"),
    ("k = [[1]]", "L3"), ("k = len('a')", "L3"),
    ("k = {'f': f}\ndef f(x):\n    return x", "L3"), ("def f(x):\n    return x\nk = {'f': f(1)}", "L3"), ("for k in 'a': pass", "L3"), ("k = 1\nk = 2", "L15"),
    ("def f(xs=[]):\n    return xs", "L4"), ("def f(x: int):\n    return x", "L21"), ("def f() -> int:\n    return 1", "L21"),
    ("class A:\n    def __hash__(self):\n        return 1", "L5"),
    ("class A:\n    def __getitem__(self, at):\n        return 1", "L5"),
    ("class A:\n    def __add__(self, one, other=1):\n        return 1", "L5"),
    ("class A:\n    def __add__(self, other):\n        self.k = 1\n        return 1", "L5"),
    ("class A:\n    def __add__(self, other):\n        other.append(1)\n        return 1", "L5"),
    ("class A:\n    def __add__(self, other):\n        return g(other)\ndef g(xs):\n    xs.append(1)", "L5"),
    ("class A:\n    @property\n    def big(self):\n        k = 1\n        k += self\n        return k", "L5"),
    ("def f():\n    global k", "L6"), ("def f(xs):\n    return any(x for x in xs)", "L7"), ("def f():\n    return 1.5", "L7"),
    ("def f(x):\n    return x / 2", "L7"), ("def f(x):\n    return hash(x)", "L8"), ("def f(x):\n    return chr(x)", "L8"),
    ("def f():\n    print(1)", "L8"), ("def f():\n" + "    pass\n" * 40, "L10"), ("# " + "x" * 120, "L10"),
    ("k = 1\n" * 400, "L10"), ("def f(_wall_x):\n    return 1", "L17"), ("def f(x):\n    for _ in x:\n        return _", "L12"),
    ("k = '\u00e4'", "L14"), ("\tk = 1".strip() + "\t", "L14"), ("def f(max):\n    return 1", "L15"),
    ("from layerpost.there import there\ndef f(there):\n    return 1", "L15"), ("def f(register):\n    return 1", "L17"),
    ("def f(id):\n    return 1", "L17"), ("def f():\n    return 'an enum'", "L17"),
    ("class A:\n    def f(self):\n        self.g = 1\n    def g(self):\n        return 1", "L18"),
    ("def f(x):\n    return x.nowhere", "L18"), ("def f(x):\n    raise x", "L19"),
    ("def f(x):\n    try:\n        return x\n    except Exception:\n        return 1", "L19"),
    ("def f(x):\n    return x is f", "L20"), ("def f(x):\n    return sorted(x, k=1)", "L22"),
    ("def g(x):\n    return 1\ndef f(x):\n    return g(1, 2)", "L22"), ("def f(xs):\n    ys = zip(xs, xs)\n    return ys", "L23"),
    ("def f(xs):\n    for x in xs:\n        xs.append(x)", "L23"), ("def f(xs):\n    yield from xs\n    return xs", "L23"),
    ("def f(xs):\n    k = yield xs", "L23"), ("class A:\n    @property\n    def f(self):\n        yield 1", "L23"),
    ("def f():\n    try:\n        yield 1\n    except KeyError:\n        pass", "L23"),
    ("def f():\n    yield 1\nclass A:\n    def f(self):\n        return 1", "L23"),
    ("class A:\n    def __exit__(self, kind, value, trace):\n        self.f()", "L6"),
    ("class A:\n    def __exit__(self, kind, value, trace):\n        self.k = value", "L6"),
    ("class A:\n    def __exit__(self, kind, value, trace):\n        self.k = f(1)", "L6"),
    ("class A:\n    def __exit__(self, kind):\n        self.k = 1", "L6"),
    ("class A:\n    def __exit__(self, kind, value, trace):\n        if self.k:\n            self.k = 1", "L6"),
    ("def f(x):\n    with x as x.k:\n        return 1", "L6"), ("def f(x):\n    with x[0]:\n        return 1", "L6"),
    ("def f():\n    yield 1\ndef g():\n    return f()", "L23"), ("def f():\n    yield 1\ndef g():\n    return [f]", "L23"), ("def f(xs):\n    ys = {x for x in xs}\n    return ys", "L24"),
    ("def f(x):\n    return x.format(1)", "L25"), ("def f(x):\n    return x.encode()", "L25"),
    ("def f(x):\n    x.items = 1", "L26"), ("class A:\n    def split(self):\n        return 1", "L26"),
    ("k = '100%'", "L27"), ("k = '\\x41'", "L27"), ("def f(n):\n    return 2 ** n", "L27"), ("k = '__odd__'", "L27"),
    ("class A:\n    def __init__(self):\n        return None", "L28"),
    ("class A:\n    def __str__(self):\n        k = 1\n        return str(k)", "L28"),
    ("class A:\n    def __len__(self):\n        return 1 + 1", "L28"),
)


def package_files():
    """The files of the package: names and texts."""
    files = {}
    for name in sorted(os.listdir(FOLDER)):
        if name != "__pycache__":
            with open(os.path.join(FOLDER, name), encoding="utf-8") as file:
                files[name] = file.read()
    return files


class FormTest(unittest.TestCase):

    def test_no_rule_is_broken(self):
        files = package_files()
        self.assertEqual(complaints(files), [])
        self.assertIn("__init__.py", files)
        self.assertLessEqual(len(files), 100)

    def test_a_broken_rule_is_seen(self):
        for text, rule in BROKEN:
            files = {"here.py": text + "\n", "there.py": "def there():\n    return 1\n"}
            with self.subTest(text=text):
                self.assertIn(rule, [line.split(": ")[1] for line in complaints(files)])

    def test_files_that_import_each_other(self):
        files = {"here.py": "from layerpost.there import g\n\ndef f():\n    return g()\n",
                 "there.py": "from layerpost.here import f\n\ndef g():\n    return f()\n"}
        self.assertIn("L16", [line.split(": ")[1] for line in complaints(files)])

    def test_the_interface_stands_where_it_is_listed(self):
        files = package_files()
        for name, things in INTERFACE.items():
            found = {node.name: node for node in ast.parse(files[name]).body
                     if isinstance(node, (ast.FunctionDef, ast.ClassDef))}
            for thing, methods in things.items():
                self.assertIn(thing, found, name)
                self.assertIs(isinstance(found[thing], ast.FunctionDef), methods is None)
                own = [node.name for node in found[thing].body if isinstance(node, ast.FunctionDef)]
                self.assertEqual([method for method in methods or [] if method not in own], [], thing)
