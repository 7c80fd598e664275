"""Desks: against nets, tables, runs and plays that the test puts together itself."""

from layerpost.bounds import cells_growth, greatest_delay, round_trip, sound, way_growth
from layerpost.desk import Desk
from layerpost.desk_asks import way_word
from layerpost.errors import NoLink, Nothing, PostError
from layerpost.frames import FrameRule
from layerpost.losses import Burst, LossRule, MachineRule
from layerpost.nets import Flow, Lane, Link, Net
from layerpost.plans import Plan
from layerpost.player import Player
from layerpost.rounds import Round
from layerpost.routes import apart
from layerpost.runs import Fall, Run
from layerpost.tables import Leads, Ring, Stops, Tables, leads
from layerpost.texts import net_text, run_text
from tests.helpers import Case, any_values, dealer, error_of, some_signs

LINES = ["net 4 a b c / 011 : 01 0", "link x a b 0 / f / f", "link y a c 0 / f g / f g", "link z c b 0 / f g / f g", "flow f a b 2 9",
         "flow g c b 4 40"]


def first_of(net):
    """The tables of the beginning."""
    tables = Tables(net)
    for flow in net.flows:
        ways = apart(net, flow.name)
        if ways:
            tables = tables.laid(flow.name, "first", ways.main).laid(flow.name, "spare", ways.spare)
    return tables


class Beside:
    """What a desk keeps, as the test puts it together; past has what was ahead of each line."""

    def __init__(self):
        self.net, self.tables, self.run, self.play, self.past = None, None, None, None, []

    def state(self):
        return self.net, self.tables, self.run, None if self.play is None else self.play.twin()

    def keep(self):
        self.past.append(self.state())

    def renew(self, net):
        self.keep()
        self.net, self.tables, self.run, self.play = net, first_of(net), Run(net), None
        return "ok"

    def rerun(self, run):
        self.keep()
        self.run, self.play = run, None
        return "ok"

    def lane(self, one, other):
        """The link of a lane, and the lane."""
        link = self.net.between(one, other)
        if link is None:
            raise NoLink(one)
        return link, link.lane_from(one)

    def relane(self, one, other, **parts):
        """Another lane from a house to another one."""
        link, lane = self.lane(one, other)
        told = {"ring": lane.ring, "travel": lane.travel, "plan": lane.plan, "rule": lane.rule, **parts}
        lanes = [Lane(**told), link.back] if link.one == one else [link.there, Lane(**told)]
        return self.renew(self.net | Link(link.name, link.one, link.other, *lanes))

    def lay(self, flow, way, houses):
        tables = self.tables.laid(flow, way, houses)
        self.keep()
        self.tables, self.play = tables, None
        return "ok"

    def start(self):
        play = Player(self.run, self.tables)
        self.keep()
        self.play = play
        return "ok"

    def played(self, work):
        """Something that is done in a play."""
        other = self.play.twin()
        work(other)
        self.keep()
        self.play = other
        return other

    def undo(self):
        if not self.past:
            return "nothing"
        self.net, self.tables, self.run, self.play = self.past.pop()
        return "ok"


def dealt_line(chance):
    """A line by chance, and what it does beside; names are of the net of LINES, or some more."""
    house, flow = lambda: chance.choice("abcabcabcd"), lambda: chance.choice("fgfgfgh")
    one, other, name, way = house(), house(), flow(), chance.choice(("first", "spare"))
    number, letter = chance.choice((0, 0, 1, 2, 5, 30)), some_signs(chance, 0, 3)
    ring = chance.choice(("f", "f g", "g f -", "f f g"))
    plan, rule = chance.choice(("row", "row 1", "row / row / mute 1+2")), chance.choice(("losses 0 -", "losses 0 1 / 0 -", "losses 0 1 / 1 -"))
    losses, houses = chance.choice(("-", ".", "x", "x.", ".x", "xx", "")), [house() for _ in range(chance.randint(2, 3))]
    link, word = chance.choice("xyzw"), letter or "-"
    rows = {
        "net": (f"net 4 {' '.join(sorted(set(houses)))} / 011 : 01 0", lambda by: by.renew(Net(sorted(set(houses)), [], [], FrameRule("011", ("01", "0")), 4))),
        "link": (f"link {link} {one} {other} {number} / {ring} / f g",
                 lambda by: by.renew(by.net | Link(link, one, other, Lane(Round.read(ring), number), Lane(Round("f", "g"), number)))),
        "round": (f"round {one} {other} {ring}", lambda by: by.relane(one, other, ring=Round.read(ring))),
        "plan": (f"plan {one} {other} {plan}", lambda by: by.relane(one, other, plan=Plan.read(plan))),
        "rule": (f"rule {one} {other} {rule}", lambda by: by.relane(one, other, rule=LossRule.read(rule))),
        "flow": (f"flow {name} {one} {other} 3 {number + 5}", lambda by: by.renew(by.net | Flow(name, one, other, 3, number + 5))),
        "less": (f"less {link}", lambda by: by.renew(by.net - link)),
        "lay": (f"lay {name} {way} {' '.join(houses)}", lambda by: by.lay(name, way, tuple(houses))),
        "place": (f"place {one} {other} {number}", lambda by: by.rerun(by.run.with_place((by.lane(one, other)[0].name, one), number))),
        "line": (f"line {one} {other} {name} {number} {losses or '-'}",
                 lambda by: by.rerun(by.run.with_line((by.lane(one, other)[0].name, one, name), number, losses.replace("-", "")))),
        "letter": (f"letter {name} {number} {word}", lambda by: by.rerun(by.run.with_contents(name, [*by.run.contents_of(name), (number, letter)]))),
        "fall": (f"fall {chance.choice((link, one))} at {number}", None),
        "stand": ("stand", lambda by: by.rerun(by.run.with_fall(None))),
        "play": ("play", lambda by: by.start()),
        "send": (f"send {name} {word}", lambda by: by.played(lambda play: play.send(name, letter)) and "ok"),
        "go": (f"go {number}", lambda by: str(by.played(lambda play: play.go(number)).clock)),
        "undo": ("undo", lambda by: by.undo()),
    }
    kind = chance.choice([*rows, "play", "go", "go", "send", "letter", "letter", "line", "place", "undo"])
    text, work = rows[kind]
    if kind == "fall":
        what = text.split(" ")[1]
        work = lambda by: by.rerun(by.run.with_fall(Fall(number, what)))
    return text, work


def wanted_error(beside, text, work):
    """The error of a line that stands in the table, beside: Nothing first."""
    word = text.split(" ")[0]
    if word in ("send", "go") and beside.play is None or word not in ("net", "undo") and beside.net is None:
        return ("Nothing",)
    return error_of(work, beside)


class DeskCase(Case):

    def same(self, desk, beside):
        self.assertEqual((desk.net_now, desk.laid_tables, desk.run_now, desk.play_now()), beside.state())
        self.assertEqual(len(desk), len(beside.past))


class LinesTest(DeskCase):

    def test_rows_of_lines_by_chance(self):
        chance, words = dealer(1), set()
        for _ in range(60):
            desk, beside = Desk(), Beside()
            for text in LINES if chance.random() < .9 else LINES[:chance.randint(0, 5)]:
                self.assertEqual(desk.say(text), "ok")
            beside.past = [None] * len(desk)
            beside.net, beside.tables, beside.run = desk.net_now, desk.laid_tables, desk.run_now
            self.check_first(desk)
            for _ in range(60):
                text, work = dealt_line(chance)
                if text == "undo" and beside.past[-1:] == [None]:
                    continue
                before = beside.state()
                many = len(beside.past)
                wanted = Nothing if beside.net is None and text.split(" ")[0] not in ("net", "undo") else None
                error = wanted_error(beside, text, lambda by: None) if wanted else None
                if error is None:
                    try:
                        answer, error = self.answered(beside, text, work), None
                    except PostError as raised:
                        answer, error = None, (type(raised).__name__, *vars(raised).values())
                if error is None:
                    self.assertEqual(desk(text), answer, text)
                    words.add(text.split(" ")[0])
                else:
                    self.refused(error, desk.say, text)
                    words.add((text.split(" ")[0], error[0]))
                    self.assertEqual((beside.state(), len(beside.past)), (before, many))
                self.same(desk, beside)
        self.assertLessEqual({"net", "link", "round", "plan", "rule", "flow", "less", "lay", "place", "line", "letter", "fall", "stand", "play",
                              "send", "go", "undo"}, words)
        self.assertLessEqual({("link", "Clashing"), ("plan", "NoLink"), ("less", "NoName"), ("lay", "BadTable"), ("line", "NoLine"), ("line", "NoPhase"),
                              ("line", "BadLosses"), ("place", "BadNumber"), ("letter", "BadRun"), ("send", "Nothing"), ("round", "NoHouse"),
                              ("fall", "BadRun"), ("letter", "NoFlow"), ("flow", "NoHouse"), ("go", "Nothing")}, words)

    def answered(self, beside, text, work):
        if text.split(" ")[0] in ("send", "go") and beside.play is None:
            raise Nothing()
        return work(beside)

    def check_first(self, desk):
        """What lines that change the net leave: tables and run of the beginning, no play."""
        if desk.net_now is None:
            self.assertEqual((desk.laid_tables, desk.run_now, desk.play_now()), (None, None, None))
        else:
            self.assertEqual((desk.laid_tables, desk.run_now, desk.play_now()), (first_of(desk.net_now), Run(desk.net_now), None))

    def test_a_fresh_desk(self):
        desk = Desk()
        self.assertEqual((desk.net_now, desk.laid_tables, desk.run_now, desk.play_now(), len(desk)), (None, None, None, None, 0))
        self.assertEqual(desk.say(line="undo"), "nothing")
        for line in (*LINES[1:], "round a b f", "less f", "lay f first a b", "place a b 0", "line a b f 0 -", "letter f 0 -", "fall x at 0", "stand", "play",
                     "send f -", "go 0", "show", "run", "frame -", "cells 0", "ways f", "delay f first 0", "trip f first 0", "worst f 0", "sound f", "handed f",
                     "delays f", "way f", "clock", "plan a b row", "rule a b losses 0 -"):
            self.refused(("Nothing",), desk, line)
        self.assertEqual(len(desk), 0)
        self.assertEqual(desk.say_all(), [])

    def test_each_line_that_changes_the_net(self):
        for line in ("net 8 q r / 01 :", "link x a b 1 / f / g", "round a b g f", "plan a b row 1", "rule c b losses 0 1 / 1 -", "flow h b a 0 1", "less x", "less f",
                     "round a b f", "link x a b 0 / f / f", "flow f a b 2 9"):
            desk = Desk()
            desk.say_all(*LINES, "lay f first a c b", "place a c 1", "letter f 3 1", "play", "go 5")
            self.assertEqual((len(list(desk.run_now.told_lanes())), desk.play_now().clock), (1, 5))
            self.assertEqual(desk(line), "ok")
            self.check_first(desk)
            self.refused(("Nothing",), desk, "clock")
            self.assertEqual([desk("undo"), desk("clock"), desk("ways f")], ["ok", "5", "a c b , a c b"])

    def test_each_line_that_leaves_no_play(self):
        for line in ("lay f first a b", "place a c 0", "place a c 1", "line a b f 0 -", "line a b f 0 ..", "letter f 9 -", "fall x at 3", "fall c at 3", "stand"):
            desk = Desk()
            desk.say_all(*LINES[:5], "letter f 3 1", "play", "go 5")
            tables, run = desk.laid_tables, desk.run_now
            self.assertEqual(desk(line), "ok")
            self.assertIsNone(desk.play_now())
            if line in ("lay f first a b", "place a c 0", "line a b f 0 -", "line a b f 0 ..", "stand"):
                self.assertEqual((desk.laid_tables, desk.run_now), (tables, run))
            else:
                self.assertNotEqual(desk.run_now, run)
            self.refused(("Nothing",), desk, "handed f")
            self.assertEqual([desk("undo"), desk("clock")], ["ok", "5"])

    def test_texts_of_parts(self):
        desk = Desk()
        desk.say_all(*LINES)
        desk("plan a b row / row / mute 1+2")
        desk("rule b a losses 0 1 / 2 - / 0 -")
        desk("round b a f - g g")
        link = desk.net_now.link_named("x")
        self.assertEqual(link, Link("x", "a", "b", Lane(Round("f"), 0, Plan.groups(2)), Lane(Round("f", None, "g", "g"), 0, None, Burst(1, 2))))
        self.refused(("BadRule", "calm"), desk, "rule a b losses 1 - / 2 0 / 0 -")
        self.assertFalse(MachineRule((1, None), (2, 0), (0, None)).is_calm)
        self.refused(("BadPlan", "mute"), desk, "plan a b mute")
        self.refused(("BadPlan", 0), desk, "plan a b row 1 / mute")
        # What a text raises comes ahead of all that asks for a net or a house.
        self.refused(("BadPlan", "mute"), Desk(), "plan a b mute")
        self.refused(("BadPlan", "mute"), desk, "plan d d mute")
        self.refused(("NoHouse", "d"), desk, "plan d e row")
        self.refused(("NoHouse", "e"), desk, "round a e f")
        self.refused(("NoLink", "a"), desk, "round a a f")
        self.refused(("NoLink", "a"), desk, "place a a 0")
        desk("less x")
        self.refused(("NoLink", "b"), desk, "line b a f 0 -")
        self.refused(("NoHouse", "d"), desk, "line d a f 0 -")
        self.refused(("NoHouse", "d"), desk, "place a d 0")

    def test_what_is_called_raises(self):
        desk = Desk()
        desk.say_all(*LINES)
        for line, told in (("net 4 a / 01 :", ("BadNet", "houses")), ("net 4 a a / 01 :", ("BadNet", "houses")), ("net 4 a b c d e f g h i j k l m / 01 :", ("BadNet", "houses")),
                           ("link q a a 0 / f / f", ("BadNet", "other")), ("link q a d 0 / f / f", ("NoHouse", "d")), ("link q a b 0 / f / f", ("Clashing", "q")),
                           ("link f a b 0 / f / f", ("Clashing", "f")), ("flow q a a 0 1", ("BadNet", "end")), ("flow q d a 0 1", ("NoHouse", "d")), ("flow x a b 0 1", ("Clashing", "x")),
                           ("less q", ("NoName", "q")), ("less a", ("Clashing", "f")), ("lay q first a b", ("NoFlow", "q")), ("lay f first a c", ("BadTable", "houses")),
                           ("lay f first a a", ("BadTable", "houses")), ("place a b 1", ("BadNumber", 1)), ("place a b " + "9" * 30, ("BadNumber", int("9" * 30))),
                           ("line a b f 1 -", ("NoPhase", 1)), ("line a b g 0 -", ("NoLine", ("x", "a", "g"))), ("line a b q 0 -", ("NoLine", ("x", "a", "q"))), ("line a b f 0 x", ("BadLosses", "x")),
                           ("line a b f 0 " + "." * 401, ("BadLosses", "." * 401)), ("letter q 0 -", ("NoFlow", "q")), ("letter f 0 111", ("TooMany", "signs", 2)),
                           ("fall q at 0", ("NoName", "q")), ("fall f at 0", ("NoName", "f")), ("fall a at 0", ("BadRun", "house")), ("ways q", ("NoFlow", "q")),
                           ("delay q first 0", ("NoFlow", "q")), ("trip q first 0", ("NoFlow", "q")), ("worst q 0", ("NoFlow", "q")), ("worst f 3", ("BadNumber", 3)), ("sound q", ("NoFlow", "q"))):
            before, many = desk.net_now, len(desk)
            self.refused(told, desk, line)
            self.assertEqual((desk.net_now, len(desk)), (before, many))
        desk.say_all("letter f 5 -", "play")
        for line, told in (("letter f 4 -", ("BadRun", "letters")), ("send q -", ("NoFlow", "q")), ("send f 111", ("TooMany", "signs", 2)), ("go 20001", ("TooMany", "ticks", 20000)),
                           ("go " + "9" * 30, ("TooMany", "ticks", 20000)), ("handed q", ("NoFlow", "q")), ("delays q", ("NoFlow", "q")), ("way q", ("NoFlow", "q"))):
            self.refused(told, desk, line)
            self.assertEqual(desk("clock"), "0")
        desk.say_all(*["letter f 5 -"] * 39)
        self.refused(("BadRun", "letters"), desk, "letter f 5 -")

    def test_losses_that_a_line_can_tell(self):
        desk = Desk()
        desk.say_all(*LINES, "rule a b losses 0 1 / 1 -", "line a b f 0 .x..")
        self.assertEqual(desk.run_now.losses_of(("x", "a", "f")), ".x")
        desk.say_all("line a b f 0 " + "." * 400)
        self.assertEqual(desk.run_now, Run(desk.net_now))
        desk.say_all("line a b f 0 x", "line a b f 0 -")
        self.assertEqual(desk.run_now, Run(desk.net_now))
        self.refused(("BadLosses", "xx"), desk, "line a b f 0 xx")


class CommandTest(DeskCase):
    """Lines that are none of the table: the word is told, whatever the desk keeps."""

    GOOD = (*LINES, "link abcdefgh a b 1000 / f - / - g", "round a b f -", "plan a b row 1 / mute 1", "rule a b losses 0 1 / 0 -", "flow f a b 199 1000000000", "less f",
            "lay f spare a c b", "place a b 5", "line a b f 0 x.x", "letter f 20000 01", "fall x at 20000", "stand", "play", "send f 01", "go 5", "undo", "show", "run",
            "frame 01", "cells 5", "ways f", "delay f first 5", "trip f spare 5", "worst f 5", "sound f", "handed f", "delays f", "way f", "clock")

    def test_words_exchanged_and_put_in(self):
        desk = Desk()
        for line in self.GOOD:
            words = line.split(" ")
            for at in range(len(words)):
                for wrong in ("", "?", "A", "00", "-1", "y" * 9, "\n"):
                    if wrong == "00" and words[0] in ("letter", "send", "frame") and at == len(words) - 1 or "00" == wrong and words[0] == "net" and at > 5:
                        continue
                    if words[0] == "rule" and words[at] == "/" or words[0] == "net" and words[at] == "/":
                        continue
                    self.refused(("BadCommand", at), desk, " ".join(words[:at] + [wrong] + words[at + 1:]))
            for at in range(len(words) + 1):
                for more in ("", "?"):
                    self.refused(("BadCommand", at), desk, " ".join(words[:at] + [more] + words[at:]))
        self.assertEqual(len(desk), 0)

    def test_words_left_out(self):
        desk = Desk()
        for line, word in (("", 0), ("net", 1), ("net 4", 2), ("net 4 a", 3), ("net 4 /", 2), ("net 4 / 01 :", 2), ("net 4 a /", 4), ("net 4 a b / 01", 6), ("net a b / 01 :", 1),
                           ("link x a b 0 / f", 7), ("link x a b 0 / f /", 8), ("link x a b 0 / / f", 6), ("link x a b 0 f / f", 5), ("link x a b / f / f", 4), ("link x a b 0", 5),
                           ("link x a b 0 /", 6), ("link x a b 0 / f / f / f", 9), ("link x a b 0 / f /  f", 8), ("round a b", 3), ("round a", 2), ("plan a b", 3), ("plan a b row /", 5),
                           ("rule a b losses 0", 5), ("rule a b losses", 4), ("rule a b losses 0 1 / 0 1", 3), ("rule a b", 3), ("flow f a b 2", 5), ("flow f a b", 4), ("less", 1), ("lay", 1), ("lay f", 2), ("lay f first", 3),
                           ("lay f first a", 4), ("place a b", 3), ("line a b f 0", 5), ("line a b f -", 4), ("letter f 0", 3), ("letter f", 2), ("fall x", 2), ("fall x at", 3), ("fall x 3", 2),
                           ("send f", 2), ("go", 1), ("frame", 1), ("cells", 1), ("ways", 1), ("delay f first", 3), ("delay f 3", 2), ("trip", 1), ("worst f", 2), ("sound", 1), ("way", 1)):
            self.refused(("BadCommand", word), desk, line)

    def test_bounds_of_numbers(self):
        desk = Desk()
        desk.say_all(*LINES)
        for line, word in (("net 0 a b / 01 :", 1), ("net 33 a b / 01 :", 1), ("link q a b 1001 / f / f", 4), ("link q a b 0 / f" + " f" * 24 + " / f", 30), ("link q a b 0 / f / f" + " f" * 24, 32),
                           ("flow q a b 200 1", 4), ("flow q a b 0 0", 5), ("flow q a b 0 1000000001", 5), ("letter f 20001 -", 2), ("letter f 0 " + "1" * 201, 3), ("fall x at 20001", 3),
                           ("place a b " + "1" + "0" * 29 + "1", 3), ("go 1" + "0" * 29 + "1", 1), ("cells 1" + "0" * 29 + "1", 1), ("delay f first 1" + "0" * 29 + "1", 3),
                           ("trip f first 1" + "0" * 29 + "1", 3), ("worst f 1" + "0" * 29 + "1", 2), ("line a b f 1" + "0" * 29 + "1 -", 4), ("send f " + "1" * 201, 2), ("frame " + "1" * 201, 1),
                           ("lay f third a b", 2), ("rule a b losses 0 2 / 0 -", 5), ("plan a b row 5", 4), ("round a b" + " f" * 25, 27), ("net 4 a b / 0", 5), ("net 4 a b / 01 : 0 0 , 0 1", 10)):
            self.refused(("BadCommand", word), desk, line)
        many = 10 ** 30
        growth = cells_growth(desk.net_now)
        self.assertEqual(desk(f"cells {many}"), str(growth(many)))
        self.refused(("BadNumber", many), desk, f"worst f {many}")
        self.refused(("BadNumber", many), desk, f"place a b {many}")
        self.refused(("NoPhase", many), desk, f"line a b f {many} -")
        self.assertEqual(desk("letter f 20000 -"), "ok")
        self.assertEqual(desk("fall x at 20000"), "ok")
        self.assertEqual(desk("frame " + "1" * 200), desk.net_now.rule.frame("1" * 200))
        self.assertEqual(desk("link x a b 1000 / " + " ".join(["f"] * 24) + " / " + " ".join(["f"] * 24)), "ok")

    def test_values_of_all_kinds(self):
        desk = Desk()
        for value in any_values():
            if not isinstance(value, str):
                self.refused(("BadCommand", 0), desk, value)
                self.refused(("BadCommand", 0), desk.say, value)
                self.refused(("BadCommand", 0), desk.say_all, *LINES, value)
            else:
                self.refused(("BadCommand", 0), desk, value)
        self.assertEqual((desk.net_now, len(desk)), (None, 0))

    def test_the_order_of_errors(self):
        desk = Desk()
        # The word ahead of Nothing, what a text raises ahead of Nothing, Nothing ahead of houses.
        self.refused(("BadCommand", 3), desk, "place a d x")
        self.refused(("Nothing",), desk, "place a d 3")
        desk.say_all(*LINES[:2])
        self.refused(("BadCommand", 5), desk, "line d a f 0 y")
        self.refused(("NoHouse", "d"), desk, "line d a f 0 -")
        self.refused(("NoHouse", "e"), desk, "line a e f 9 -")
        self.refused(("NoLink", "c"), desk, "line c a f 9 -")
        self.refused(("NoLine", ("x", "a", "f")), desk, "line a b f 9 -")
        self.refused(("Nothing",), desk, "send q 01")
        for line in ("send f -", "go 0", "handed q", "delays f", "way f", "clock"):
            self.refused(("Nothing",), desk, line)
        self.refused(("BadCommand", 1), desk, "handed Q")


class QuestionsTest(DeskCase):

    def net_lines(self, chance):
        """Lines of a net of three houses, or four, by chance."""
        ring = lambda: chance.choice(("f", "f g", "g f f", "f - g"))
        plan, rule = chance.choice((("row", "losses 0 -"), ("row 1", "losses 0 1 / 0 -"), ("row / row / mute 1+2", "losses 0 1 / 2 - / 0 -")))
        lines = [f"net {chance.choice((1, 4, 8))} a b c / {chance.choice(('011 : 01 0', '0111111 : 011111 0', '11 : 1 0'))}"]
        for name, pair in (("x", "a b"), ("y", "a c"), ("z", "c b")):
            lines.append(f"link {name} {pair} {chance.choice((0, 3))} / {ring()} / {ring()}")
        pair = chance.choice(("a b", "b a", "a c"))
        return [*lines, f"plan {pair} {plan}", f"rule {pair} {rule}", f"flow f a b 5 {chance.choice((4, 999))}", f"flow g {chance.choice(('c b', 'b c'))} 3 {chance.choice((9, 40, 400))}"]

    def asked(self, desk, line, work):
        """A question is answered by what the test reckons, or refused with its error; nothing is changed."""
        before = (desk.net_now, desk.laid_tables, desk.run_now, len(desk))
        error = error_of(work)
        if error is None:
            self.assertEqual(desk(line), str(work()), line)
        else:
            self.refused(error, desk, line)
        self.assertEqual((desk.net_now, desk.laid_tables, desk.run_now, len(desk)), before)

    def test_each_question_by_the_functions_of_the_package(self):
        chance, seen = dealer(4), set()
        for _ in range(12):
            desk = Desk()
            desk.say_all(*self.net_lines(chance))
            for _ in range(3):
                text, _ = dealt_line(chance)
                if text.split(" ")[0] in ("lay", "letter", "place", "line", "fall"):
                    error_of(desk, text)
            net, tables, run = desk.net_now, desk.laid_tables, desk.run_now
            self.asked(desk, "show", lambda: " ; ".join(net_text(net).split("\n")))
            self.asked(desk, "run", lambda: " ; ".join(run_text(run).split("\n")))
            for letter in ("-", "0", "1011", "1" * 200):
                self.asked(desk, f"frame {letter}", lambda: net.rule.frame(letter.replace("-", "")))
            for flow in "fgq":
                self.asked(desk, f"ways {flow}", lambda: " , ".join([self.way(leads(tables, flow, way)) for way in ("first", "spare")]))
                self.asked(desk, f"sound {flow}", lambda: ("sound " if sound(tables, flow) else "alarm ") + str(sound(tables, flow).trip))
                for number in (0, 1, 3, 5, 6, 1000, 10 ** 30):
                    self.asked(desk, f"cells {number}", lambda: cells_growth(net)(number))
                    self.asked(desk, f"worst {flow} {number}", lambda: greatest_delay(tables, flow, number, 1))
                    for way in ("first", "spare"):
                        self.asked(desk, f"delay {flow} {way} {number}", lambda: way_growth(tables, flow, way)(number))
                        self.asked(desk, f"trip {flow} {way} {number}", lambda: round_trip(tables, flow, way)(number))
                seen.add(desk(f"sound {flow}").split(" ")[0] if error_of(desk, f"sound {flow}") is None else None)
        self.assertEqual(seen, {"sound", "alarm", None})

    def way(self, answer):
        if isinstance(answer, Leads):
            return " ".join(answer.houses)
        return "ring" if isinstance(answer, Ring) else "stops"

    def test_ways_that_do_not_lead(self):
        desk = Desk()
        desk.say_all(*LINES, "less y")
        self.assertEqual(desk("ways f"), "stops , stops")
        self.refused(("BadTable", "first"), desk, "delay f first 0")
        self.refused(("BadTable", "spare"), desk, "trip f spare 0")
        desk("lay f first a b")
        self.assertEqual(desk("ways f"), "a b , stops")
        self.assertEqual(desk("sound f"), "sound 3")
        self.refused(("BadTable", "spare"), desk, "worst f 0")

    def test_answers_of_plays(self):
        desk = Desk()
        desk.say_all(*LINES, "letter f 0 01", "letter f 0 -", "letter g 3 1", "fall y at 30", "play")
        self.assertEqual([desk("handed f"), desk("delays f"), desk("way f"), desk("clock")], ["none", "none", "first", "0"])
        player = Player(desk.run_now, desk.laid_tables)
        for ticks in (1, 3, 8, 0, 25):
            player.go(ticks)
            self.assertEqual(desk(f"go {ticks}"), str(player.clock))
            self.assertEqual(desk.play_now(), player)
            for flow in "fg":
                self.assertEqual(desk(f"handed {flow}"), " ".join([content or "-" for content in player.handed(flow)]) or "none")
                self.assertEqual(desk(f"delays {flow}"), " ".join(map(str, player.ticks_of(flow))) or "none")
                self.assertEqual(desk(f"way {flow}"), player.way_of(flow))
        self.assertEqual(desk("handed f"), "01 -")
        player.send("f", "")
        self.assertEqual(desk("send f -"), "ok")
        self.assertEqual(desk.play_now(), player)

    def test_a_ring(self):
        # A way that is laid goes round nowhere, so the words of all answers are looked at by themselves.
        self.assertEqual([way_word(Leads(tuple("abc"))), way_word(Ring(tuple("ab"))), way_word(Stops("b"))], ["a b c", "ring", "stops"])


class PlaysTest(DeskCase):

    def test_a_player_beside(self):
        chance = dealer(5)
        for _ in range(20):
            desk = Desk()
            desk.say_all(*LINES)
            for _ in range(6):
                text, _ = dealt_line(chance)
                if text.split(" ")[0] in ("letter", "place", "line", "fall"):
                    error_of(desk, text)
            desk("play")
            player = Player(desk.run_now, desk.laid_tables)
            for _ in range(15):
                if chance.random() < .3:
                    flow, letter = chance.choice("fg"), some_signs(chance, 0, 2)
                    player.send(flow, letter)
                    self.assertEqual(desk(f"send {flow} {letter or '-'}"), "ok")
                many = chance.randint(0, 9)
                player.go(many)
                self.assertEqual(desk(f"go {many}"), str(player.clock))
                self.assertEqual(desk.play_now(), player)
                self.assertEqual(desk("clock"), str(player.clock))

    def test_a_twin_goes_its_own_way(self):
        desk = Desk()
        desk.say_all(*LINES, "letter f 0 1", "play", "go 2")
        one, other = desk.play_now(), desk.play_now()
        self.assertIsNot(one, other)
        one.go(30)
        one.send("f", "0")
        self.assertEqual((desk("clock"), desk.play_now(), other.clock, one.deeds), ("2", other, 2, 2))
        self.refused(("Nothing",), other.undo)
        desk("go 4")
        self.assertEqual((other.clock, desk("clock")), (2, "6"))

    def test_play_once_more(self):
        desk = Desk()
        desk.say_all(*LINES, "letter f 0 1", "play", "go 9")
        self.assertEqual([desk("play"), desk("clock"), desk("undo"), desk("clock")], ["ok", "0", "ok", "9"])


class UndoTest(DeskCase):

    def test_through_whole_rows_of_lines(self):
        chance = dealer(6)
        for _ in range(15):
            desk = Desk()
            states, lines = [], []
            while len(lines) < 60:
                text = LINES[len(lines)] if len(lines) < len(LINES) else dealt_line(chance)[0]
                state = (desk.net_now, desk.laid_tables, desk.run_now, desk.play_now())
                if text == "undo":
                    continue
                if error_of(desk, text) is None:
                    states.append(state)
                    lines.append(text)
                elif desk.net_now is not None and chance.random() < .2:
                    self.assertEqual(desk.say_all("show", "run")[1], desk("run"))
                self.assertEqual(len(desk), len(states))
            last = (desk.net_now, desk.laid_tables, desk.run_now, desk.play_now())
            for state in states[::-1]:
                self.assertEqual(desk.say("undo"), "ok")
                self.assertEqual((desk.net_now, desk.laid_tables, desk.run_now, desk.play_now()), state)
            self.assertEqual((len(desk), desk("undo")), (0, "nothing"))
            # The lines that stand lead to the same again, on this desk and on a fresh one.
            for other in (desk, Desk()):
                for line in lines:
                    other(line)
                self.assertEqual((other.net_now, other.laid_tables, other.run_now, other.play_now()), last)
                self.assertEqual(len(other), len(lines))

    def test_say_all(self):
        desk = Desk()
        self.assertEqual(desk.say_all(*LINES, "ways f", "undo", "cells 2"), ["ok"] * 6 + ["a b , a c b", "ok", "2"])
        self.assertEqual(len(desk), 5)
        desk.say_all("letter f 0 1", "play", "go 2")
        before, many = (desk.net_now, desk.laid_tables, desk.run_now, desk.play_now()), len(desk)
        for lot, told in ((("go 5", "less z", "play", "no line"), ("BadCommand", 0)), (("undo", "undo", "undo", "undo", "net 4 q r / 01 :", "clock"), ("Nothing",)),
                          (("undo", "less q"), ("NoName", "q")), (("go 1", "go 20000"), ("TooMany", "ticks", 20000)), (("show", None), ("BadCommand", 0))):
            self.refused(told, desk.say_all, *lot)
            self.assertEqual(((desk.net_now, desk.laid_tables, desk.run_now, desk.play_now()), len(desk)), (before, many))
        self.assertEqual([desk("undo") for _ in range(many)], ["ok"] * many)
        self.assertEqual(desk("undo"), "nothing")

    def test_trials(self):
        desk = Desk()
        desk.say_all(*LINES, "letter f 0 1", "play", "go 2")
        before, many = (desk.net_now, desk.laid_tables, desk.run_now, desk.play_now()), len(desk)
        block = desk.trial()
        with block as same:
            self.assertIs(same, desk)
            desk.say_all("less z", "undo", "undo", "undo", "play")
            with desk.trial():
                desk.say_all("net 4 q r / 01 :")
            self.assertEqual(desk("clock"), "0")
        self.assertEqual(((desk.net_now, desk.laid_tables, desk.run_now, desk.play_now()), len(desk)), (before, many))
        with self.assertRaises(Nothing):
            with desk.trial():
                desk.say_all("less z")
                desk("clock")
        with self.assertRaises(ZeroDivisionError):
            with desk.trial():
                desk.say("undo")
                len(desk) // 0
        self.assertEqual(((desk.net_now, desk.laid_tables, desk.run_now, desk.play_now()), len(desk)), (before, many))
        told = desk.tried(lambda one: [one is desk, one("go 9"), one("handed f"), one("undo"), one("undo"), len(one)])
        self.assertEqual(told, [True, "11", "1", "ok", "ok", many - 1])
        self.refused(("NoName", "q"), desk.tried, lambda one: [one("less z"), one("less q")])
        self.assertEqual(((desk.net_now, desk.laid_tables, desk.run_now, desk.play_now()), len(desk)), (before, many))
        self.assertEqual([desk("undo"), desk("clock")], ["ok", "0"])

    def test_refused_lines_and_questions_are_not_counted(self):
        desk = Desk()
        desk.say_all(*LINES)
        for line in ("show", "run", "ways f", "cells 3", "sound f", "frame 1"):
            desk(line)
            self.refused(("BadCommand", 0), desk, line + "x" if " " not in line else "x" + line)
            self.assertEqual(len(desk), 6)
        self.assertEqual(desk("undo"), "ok")
        self.assertEqual([flow.name for flow in desk.net_now.flows], ["f"])
