"""Falls and runs: made, asked, changed, joined, refused."""

from inspect import isgenerator

from layerpost.losses import Burst, Total
from layerpost.nets import Flow, Lane, Link, Net
from layerpost.plans import Plan
from layerpost.rounds import Round
from layerpost.runs import Fall, Run
from tests.helpers import Case, any_values, dealer
from tests.nets import SIMPLE

MANY = [(at, "") for at in range(40)]
GOOD_LANE, GOOD_LINE = ("ab", "a"), ("ab", "a", "x")
WRONG_LANES = ((), ("ab",), ("ab", "c"), ("zz", "a"), ("ab", "a", "x"), ["ab", "a"], "ab", ("a", "ab"), ("ab", None), ("ab", "x"),
               (None, "a"), (("ab",), "a"), ("x", "a"))
WRONG_LINES = ((), ("ab", "a"), ("ab", "a", "w"), ("ab", "a", "y"), ("ab", "b", "q"), ("ab", "c", "x"), ("zz", "a", "x"),
               ["ab", "a", "x"], "ab", ("ab", "a", "x", "x"), ("ab", "a", None), ("ab", "a", ["x"]), ("ab", "x", "a"), ("ab", "a", "ab"))
WRONG_LOSSES = ("xx", ".xx.", "x.xx", "." * 401, "X", "0", "x ", "-", b"x")


def net_for_runs():
    """Three houses, three flows; y has no slots on the lane from a to b, w is no flow, q has slots elsewhere."""
    there = Lane(Round("x", None, "w"), 1, Plan.groups(2), Burst(1, 1))
    back = Lane(Round("x", "y"), 0, Plan.copies(1), Total(2))
    links = [Link("ab", "a", "b", there, back), Link("bc", "b", "c", back, there), Link("ca", "c", "a", there, there),
             Link("cd", "c", "d", Lane(Round("q")), Lane(Round("q")))]
    flows = [Flow("x", "a", "b", 3, 9), Flow("y", "b", "a", 199, 9), Flow("q", "b", "a", 0, 9)]
    return Net(["a", "b", "c", "d"], links, flows, SIMPLE, 4)


NET = net_for_runs()
LANES = {(link.name, house): link.lane_from(house) for link in NET.links for house in (link.one, link.other)}
LINES = {(*key, flow): lane for key, lane in LANES.items() for flow in ("x", "y", "q") if flow in lane.ring.slots}


def keys_of(wrong):
    """Those of these values that can be keys of a dict."""
    found = []
    for value in wrong:
        try:
            hash(value)
        except TypeError:
            continue
        found.append(value)
    return found


class Told:
    """What a run tells, as the test keeps it."""

    def __init__(self):
        self.places, self.phases, self.losses, self.contents, self.fall = {}, {}, {}, {}, None

    def run(self):
        return Run(NET, dict(self.places), dict(self.phases), dict(self.losses), dict(self.contents), self.fall)

    def asked(self):
        """All that can be asked of it."""
        return ([self.places.get(key, 0) for key in LANES], [self.phases.get(key, 0) for key in LINES],
                [self.losses.get(key, "").rstrip(".") for key in LINES], [tuple(self.contents.get(key, ())) for key in "xyq"],
                self.fall, sorted([key for key in LANES if self.places.get(key, 0)]),
                sorted([key for key in LINES if self.phases.get(key, 0) or "x" in self.losses.get(key, "")]))

    def change(self, chance):
        """One thing otherwise; the call of a run that does so."""
        word = chance.choice(("place", "line", "line", "contents", "fall"))
        if word == "place":
            key = chance.choice(list(LANES))
            self.places[key] = chance.randrange(len(LANES[key].ring))
            return "with_place", (key, self.places[key])
        if word == "line":
            key = chance.choice(list(LINES))
            self.phases[key] = chance.randrange(len(LINES[key].plan))
            self.losses[key] = chance.choice([losses for losses in ("", ".", "x", "..x.", "x..", "x.x") if LINES[key].rule.lets(losses)])
            return "with_line", (key, self.phases[key], self.losses[key])
        if word == "contents":
            flow = chance.choice("xyq")
            ticks = sorted([chance.randint(0, 9) for _ in range(chance.randint(0, 3))])
            self.contents[flow] = [(tick, "01" if flow != "q" else "") for tick in ticks]
            return "with_contents", (flow, self.contents[flow])
        self.fall = chance.choice((None, Fall(chance.randint(0, 9), chance.choice(("c", "d", "ab", "cd")))))
        return "with_fall", (self.fall,)


def asked(run):
    """All that a run tells."""
    return ([run.place_of(key) for key in LANES], [run.phase_of(key) for key in LINES], [run.losses_of(key) for key in LINES],
            [run.contents_of(flow) for flow in "xyq"], run.fall, list(run.told_lanes()), list(run.told_lines()))


class FallTest(Case):

    def test_attributes_and_texts(self):
        for tick, name in ((0, "a"), (20000, "abcdefgh"), (7, "ab")):
            for fall in (Fall(tick, name), Fall(name=name, tick=tick), Fall.read(f"{name} at {tick}")):
                self.assertEqual((fall.tick, fall.name, str(fall)), (tick, name, f"{name} at {tick}"))
        told = [Fall(1, "a"), Fall(2, "a"), Fall(1, "b")]
        for at, one in enumerate(told):
            self.assertEqual([one == other for other in told], [at == place for place in range(3)])
        self.assertEqual(Fall(1, "a"), Fall(1, "a"))
        self.assertFalse([value for value in [*any_values(), "a at 1"] if Fall(1, "a") == value])

    def test_refused(self):
        for value in [*any_values(), 20001]:
            self.refused(("BadNumber", value), Fall, value, value)
        for value in [*any_values(), "", "abcdefghi"]:
            self.refused(("BadName", value), Fall, 3, value)

    def test_words_that_cannot_stand(self):
        for text, at in (("", 0), ("A at 1", 0), (" at 1", 0), ("a", 1), ("a ", 1), ("a on 1", 1), ("a  at 1", 1), ("a at", 2), ("a at ", 2),
                         ("a at x", 2), ("a at 01", 2), ("a at -1", 2), ("a at 20001", 2), ("a at 1 ", 3), ("a at 1 2", 3),
                         ("at at at", 2), ("a at 1\n", 2), ("a at 20001 1", 2), ("a at " + "9" * 3000, 2)):
            self.refused(("BadText", 0, at), Fall.read, text)
        for value in any_values():
            self.refused(("BadText", 0, 0 if value != "x y" else 1), Fall.read, value)
        self.assertEqual(Fall.read(text="at at 20000"), Fall(20000, "at"))


class RunTest(Case):

    def test_nothing_told(self):
        runs = [Run(NET), Run(net=NET), Run(NET, None, None, None, None, None), Run(NET, {}, {}, {}, {}),
                Run(NET, {GOOD_LANE: 0}, {GOOD_LINE: 0}, {GOOD_LINE: "..."}, {"x": [], "y": ()})]
        for run in runs:
            self.assertEqual((run.net, run.fall, asked(run)), (NET, None, Told().asked()))
            self.assertEqual([run == other for other in runs], [True] * 5)

    def test_by_name(self):
        run = Run(fall=Fall(1, "c"), contents={"x": [(3, "1")]}, losses={GOOD_LINE: "x."}, phases={GOOD_LINE: 2}, places={GOOD_LANE: 1},
                  net=NET)
        self.assertEqual(run, Run(NET, {GOOD_LANE: 1}, {GOOD_LINE: 2}, {GOOD_LINE: "x"}, {"x": ((3, "1"),)}, Fall(1, "c")))
        self.assertEqual((run.place_of(lane=GOOD_LANE), run.phase_of(line=GOOD_LINE), run.losses_of(line=GOOD_LINE)), (1, 2, "x"))
        self.assertEqual((run.contents_of(flow="x"), run.fall), (((3, "1"),), Fall(1, "c")))
        same = Run(NET).with_place(place=1, lane=GOOD_LANE).with_line(losses="x", phase=2, line=GOOD_LINE)
        same = same.with_contents(pairs=[(3, "1")], flow="x").with_fall(fall=Fall(1, "c")).on_net(net=NET)
        self.assertEqual((same, Run(NET).joined(other=same)), (run, run))

    def test_led_through_many_changes(self):
        chance = dealer(1)
        for _ in range(25):
            told, run = Told(), Run(NET)
            for _ in range(25):
                before = asked(run)
                word, rest = told.change(chance)
                after = getattr(run, word)(*rest)
                self.assertEqual((asked(after), after), (told.asked(), told.run()))
                self.assertEqual(asked(run), before)
                run = after

    def test_generators(self):
        run = Run(NET, {("cd", "d"): 0, ("bc", "c"): 2, ("ab", "b"): 1}, {("ca", "a", "x"): 1, ("bc", "b", "y"): 0},
                  {("bc", "b", "x"): "..x.", ("ab", "b", "y"): "...", ("ca", "a", "x"): "x"})
        self.assertTrue(isgenerator(run.told_lanes()) and isgenerator(run.told_lines()))
        self.assertEqual(list(run.told_lanes()), [("ab", "b"), ("bc", "c")])
        self.assertEqual(list(run.told_lines()), [("bc", "b", "x"), ("ca", "a", "x")])

    def test_it_keeps_what_it_was_told(self):
        places, phases, losses, pairs = {GOOD_LANE: 1}, {GOOD_LINE: 1}, {GOOD_LINE: "x"}, [(1, "0")]
        contents = {"x": pairs}
        run = Run(NET, places, phases, losses, contents)
        other = Run(NET).with_contents("x", pairs)
        for table in (places, phases, losses, contents, pairs):
            table.clear()
        self.assertEqual((run.place_of(GOOD_LANE), run.phase_of(GOOD_LINE), run.losses_of(GOOD_LINE)), (1, 1, "x"))
        self.assertEqual((run.contents_of("x"), other.contents_of("x")), (((1, "0"),), ((1, "0"),)))

    def test_equal(self):
        runs = [Run(NET), Run(NET - "q"), Run(NET, {GOOD_LANE: 1}), Run(NET, {GOOD_LANE: 2}), Run(NET, {("ca", "c"): 1}),
                Run(NET, None, {GOOD_LINE: 1}), Run(NET, None, None, {GOOD_LINE: "x"}), Run(NET, None, None, {GOOD_LINE: ".x"}),
                Run(NET, contents={"x": [(0, "")]}), Run(NET, contents={"x": [(1, "")]}), Run(NET, contents={"y": [(0, "")]}),
                Run(NET, fall=Fall(0, "c")), Run(NET, fall=Fall(1, "c"))]
        for at, one in enumerate(runs):
            self.assertEqual([one == other for other in runs], [at == place for place in range(len(runs))])
        self.assertEqual(Run(NET, {GOOD_LANE: 1, ("ca", "c"): 2}), Run(NET, {("ca", "c"): 2, GOOD_LANE: 1}))
        self.assertFalse([value for value in [*any_values(), NET] if runs[0] == value])

    def test_joined(self):
        chance = dealer(2)
        for _ in range(60):
            one, other = Told(), Told()
            for told in (one, other):
                for _ in range(chance.randint(0, 12)):
                    told.change(chance)
            both = Told()
            for name, is_told in (("places", bool), ("phases", bool), ("losses", lambda losses: "x" in losses), ("contents", bool)):
                rows = {key: value for key, value in getattr(other, name).items() if is_told(value)}
                setattr(both, name, {**getattr(one, name), **rows})
            both.fall = other.fall or one.fall
            first, second = one.run(), other.run()
            self.assertEqual((asked(first.joined(second)), first.joined(second)), (both.asked(), both.run()))
            self.assertEqual((asked(first), asked(second)), (one.asked(), other.asked()))
        for value in [*any_values(), NET, Run(NET - "q")]:
            self.refused(("BadRun", "other"), first.joined, value)

    def test_on_another_net(self):
        run = Run(NET, {GOOD_LANE: 2}, {GOOD_LINE: 1}, {("bc", "b", "x"): "x"}, {"x": [(0, "111")]}, Fall(3, "c"))
        less = NET - "q"
        self.assertEqual((run.on_net(less).net, run.on_net(less).on_net(NET)), (less, run))
        for value in [*any_values(), run]:
            self.refused(("BadNet", "net"), run.on_net, value)
        ab, bc = NET.link_named("ab"), NET.link_named("bc")
        short = Link("ab", "a", "b", Lane(Round("x"), 0, Plan.groups(2), Burst(1, 1)), ab.back)
        plain = Link("ab", "a", "b", Lane(Round("x", None, None), 0, None, Burst(1, 1)), ab.back)
        sure = Link("bc", "b", "c", Lane(Round("x")), bc.back)
        for net, error in ((NET - "ab", ("NoLane", GOOD_LANE)), (NET | short, ("BadNumber", 2)), (NET | plain, ("NoPhase", 1)),
                           (NET | sure, ("BadLosses", "x")), (NET - "bc", ("NoLine", ("bc", "b", "x"))), (NET - "x", ("NoLine", GOOD_LINE)),
                           (NET | Flow("x", "a", "b", 2, 9), ("TooMany", "signs", 2)), (NET - "c", ("NoLine", ("bc", "b", "x"))),
                           (NET | Flow("x", "a", "c", 3, 9), ("BadRun", "house"))):
            self.refused(error, run.on_net, net)
        # What is not told plays no part.
        nought = Run(NET, {GOOD_LANE: 0}, {GOOD_LINE: 0}, {GOOD_LINE: "."}, {"q": []}, Fall(1, "cd"))
        self.assertEqual(nought.on_net(NET - "ab" - "q"), Run(NET - "ab" - "q", fall=Fall(1, "cd")))
        self.refused(("NoName", "cd"), nought.on_net, NET - "cd")
        lone = Run(NET, contents={"q": [(0, "")]})
        self.refused(("NoFlow", "q"), lone.on_net, NET - "q")


class RefusedTest(Case):

    def test_nets_dicts_and_falls(self):
        for value in [*any_values(), Run(NET)]:
            self.refused(("BadNet", "net"), Run, value, value, value, value, value, value)
        others = [value for value in any_values() if value is not None and not isinstance(value, dict)]
        for at, part in enumerate(("places", "phases", "losses", "contents")):
            for value in others:
                self.refused(("BadRun", part), Run, NET, *[{0: 0}] * at, *[value] * (5 - at))
        for value in [*others, {}, "c at 1", ("c", 1)]:
            self.refused(("BadRun", "fall"), Run, NET, {0: 0}, {0: 0}, {0: 0}, {0: 0}, value)
            self.refused(("BadRun", "fall"), Run(NET).with_fall, value)

    def test_lanes_and_places(self):
        run = Run(NET)
        for value in [*any_values(), *WRONG_LANES]:
            self.refused(("NoLane", value), run.place_of, value)
            self.refused(("NoLane", value), run.with_place, value, value)
        for value in keys_of([*any_values(), *WRONG_LANES]):
            self.refused(("NoLane", value), Run, NET, {("ca", "c"): 2, value: value, GOOD_LANE: 9}, {0: 0})
        for value in [*any_values(), 3]:
            self.refused(("BadNumber", value), run.with_place, GOOD_LANE, value)
            self.refused(("BadNumber", value), Run, NET, {("ca", "c"): 2, GOOD_LANE: value, 0: 0}, {0: 0})

    def test_lines_and_phases(self):
        run = Run(NET)
        for value in [*any_values(), *WRONG_LINES]:
            self.refused(("NoLine", value), run.phase_of, value)
            self.refused(("NoLine", value), run.losses_of, value)
            self.refused(("NoLine", value), run.with_line, value, value, value)
        for value in keys_of([*any_values(), *WRONG_LINES]):
            self.refused(("NoLine", value), Run, NET, {GOOD_LANE: 2}, {GOOD_LINE: 2, value: value}, {0: 0})
            self.refused(("NoLine", value), Run, NET, {GOOD_LANE: 2}, {GOOD_LINE: 2}, {GOOD_LINE: "x", value: value}, {0: 0})
        for value in [*any_values(), 3]:
            self.refused(("NoPhase", value), run.with_line, GOOD_LINE, value, value)
            self.refused(("NoPhase", value), Run, NET, None, {GOOD_LINE: value, 0: 0}, {0: 0}, {0: 0})

    def test_losses(self):
        run = Run(NET)
        for value in [*any_values(), *WRONG_LOSSES]:
            self.refused(("BadLosses", value), run.with_line, GOOD_LINE, 0, value)
            self.refused(("BadLosses", value), Run, NET, None, None, {GOOD_LINE: value, 0: 0}, {0: 0}, Fall(1, "z"))
        long = "x." * 200
        self.assertEqual(run.with_line(GOOD_LINE, 0, long).losses_of(GOOD_LINE), long[:-1])
        # This lane lets two losses in all, one behind the other, too.
        self.assertEqual(run.with_line(("ab", "b", "y"), 0, "xx").losses_of(("ab", "b", "y")), "xx")
        self.refused(("BadLosses", "xxx"), run.with_line, ("ab", "b", "y"), 0, "xxx")

    def test_contents(self):
        run = Run(NET)
        for value in [*any_values(), "a", "w", ("x",)]:
            self.refused(("NoFlow", value), run.contents_of, value)
            self.refused(("NoFlow", value), run.with_contents, value, value)
        for value in keys_of([*any_values(), "a", "w"]):
            self.refused(("NoFlow", value), Run, NET, contents={"x": [], value: value, "y": 0}, fall=Fall(1, "z"))
        wrong = [value for value in any_values() if value not in ((), [])]
        wrong += [[pair] for pair in any_values()] + [[(value, "0")] for value in any_values()]
        wrong += [[[0, "0"]], [(0,)], [(0, "0", "")], [(20001, "0")], [(3, "0"), (2, "0")], [(0, "0"), (1, "z"), (0, "0")],
                  [*MANY, (40, "")], [(0, "z"), (0, "0" * 4), None], {0: "0"}, "0"]
        for value in wrong:
            self.refused(("BadRun", "letters"), run.with_contents, "x", value)
            self.refused(("BadRun", "letters"), Run, NET, contents={"y": [(0, "1" * 199)], "x": value, 0: 0}, fall=Fall(1, "z"))
        for value in [*any_values(), "0" * 201, "01 "]:
            self.refused(("BadLetter", value), run.with_contents, "x", [(0, "0000"), (1, value), (2, None)])
            self.refused(("BadLetter", value), Run, NET, contents={"x": ((0, "0000"), (1, value)), 0: 0}, fall=Fall(1, "z"))
        for flow, letter, most in (("x", "0000", 3), ("y", "0" * 200, 199), ("q", "1", 0)):
            self.refused(("TooMany", "signs", most), run.with_contents, flow, [(0, ""), (1, letter)])
            self.refused(("TooMany", "signs", most), Run, NET, contents={flow: [(1, letter)], 0: 0}, fall=Fall(1, "z"))
            self.assertEqual(run.with_contents(flow, [(20000, letter[1:])]).contents_of(flow), ((20000, letter[1:]),))
        self.assertEqual(len(run.with_contents("x", MANY).contents_of("x")), 40)
        self.assertEqual(run.with_contents("x", [(3, ""), (3, "1")]).contents_of("x"), ((3, ""), (3, "1")))

    def test_falls(self):
        run = Run(NET)
        for name in ("z", "x", "y", "w"):
            self.refused(("NoName", name), run.with_fall, Fall(0, name))
            self.refused(("NoName", name), Run, NET, fall=Fall(0, name))
        for name in ("a", "b"):
            self.refused(("BadRun", "house"), run.with_fall, Fall(0, name))
            self.refused(("BadRun", "house"), Run, NET, fall=Fall(0, name))
        for name in ("c", "d", "ab", "cd"):
            self.assertEqual(run.with_fall(Fall(9, name)).fall, Fall(9, name))
        self.assertIsNone(run.with_fall(Fall(9, "c")).with_fall(None).fall)

    def test_dict_by_dict_and_entry_by_entry(self):
        wrong = [{("ab", "z"): 0}, {("ab", "a", "z"): 0}, {("ab", "z", "x"): ""}, {"z": ()}]
        good = [{GOOD_LANE: 1}, {GOOD_LINE: 1}, {GOOD_LINE: "x"}, {"x": [(0, "")]}]
        errors = [("NoLane", ("ab", "z")), ("NoLine", ("ab", "a", "z")), ("NoLine", ("ab", "z", "x")), ("NoFlow", "z")]
        for at in range(4):
            self.refused(errors[at], Run, NET, *good[:at], *wrong[at:], Fall(0, "z"))
        self.refused(("NoName", "z"), Run, NET, *good, Fall(0, "z"))
        self.refused(("BadNumber", 3), Run, NET, {GOOD_LANE: 3, ("ab", "z"): 0})
        self.refused(("NoLane", ("ab", "z")), Run, NET, {("ab", "z"): 3, GOOD_LANE: 3})
        self.refused(("BadRun", "losses"), Run, NET, wrong[0], wrong[1], 0, 0, 0)

    def test_what_is_refused_leaves_the_run(self):
        run = Run(NET, {GOOD_LANE: 1}, {GOOD_LINE: 1}, {GOOD_LINE: "x"}, {"x": [(0, "")]}, Fall(3, "c"))
        before = asked(run)
        for work, rest in ((run.with_place, (GOOD_LANE, 3)), (run.with_line, (GOOD_LINE, 1, "xx")), (run.with_contents, ("x", None)),
                           (run.with_fall, (Fall(1, "a"),)), (run.on_net, (NET - "ab",)), (run.joined, (None,))):
            with self.assertRaises(ValueError):
                work(*rest)
            self.assertEqual(asked(run), before)
