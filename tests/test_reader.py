"""Pages that are read: each gives an equal thing; each that is wrong is told by its line and its word."""

from layerpost.frames import FrameRule
from layerpost.nets import Flow, Lane, Link, Net
from layerpost.plans import Plan
from layerpost.reader import read_net, read_run, read_stack, read_tables
from layerpost.rounds import Round
from layerpost.losses import Burst
from layerpost.runs import Fall, Run
from layerpost.tables import Tables
from layerpost.texts import net_text, run_text, stack_text, tables_text
from tests.helpers import Case, any_values, dealer
from tests.test_bounds import FRAMES, WAYS, dealt_ways
from tests.test_frames import SHORT
from tests.test_least_stacks import stacks
from tests.test_player import dealt_play
from tests.test_stacks import stack
from tests.test_texts import odd_net

NET = """net 4 0111111 : 011111 0
houses a b c
link x a b
there 3 f g
plan row 1 / row
rule losses 0 1 / 0 -
back 0 f
plan row
rule losses 0 -
link y b c
there 0 f g -
plan row 1
rule losses 0 1 / 2 - / 0 -
back 1 g f
plan row
rule losses 0 -
flow f a b 2 9
flow g c b 199 1000000000"""
TABLES = """next a f first b
next a g first b
next a g spare b
next b f first a
next c g first b"""
RUN = """run
place x a 1
place y b 2
line x a f 1 x..x
line x a g 1 -
line y b f 0 .x
letter f 0 -
letter f 0 01
letter f 20000 1
letter g 7 -
fall x at 20000"""
STACK = """stack 4 011 : 01 0
plan row 1
rule losses 0 1 / 0 -
lane 2 a a b b"""


def net_now():
    return read_net(NET)


def readers():
    """Each page with its reader."""
    net = net_now()
    return ((NET, read_net), (TABLES, lambda text: read_tables(net, text)), (RUN, lambda text: read_run(net, text)), (STACK, read_stack))


def lines_of(page):
    return [line.split(" ") for line in page.split("\n")]


def joined(lines):
    return "\n".join([" ".join(words) for words in lines])


class ThereAndBackTest(Case):

    def test_the_pages_of_these_tests(self):
        net = net_now()
        lanes = [Lane(Round("f", "g"), 3, Plan.read("row 1 / row"), Burst(1, 1)), Lane(Round("f"))]
        self.assertEqual(net.links[0], Link("x", "a", "b", *lanes))
        self.assertEqual((net.houses, net.size, net.rule), (("a", "b", "c"), 4, FrameRule("0111111", ("011111", "0"))))
        self.assertEqual(net.flows, (Flow("f", "a", "b", 2, 9), Flow("g", "c", "b", 199, 10 ** 9)))
        self.assertEqual([net_text(net), tables_text(read_tables(net, TABLES)), run_text(read_run(net, RUN)), stack_text(read_stack(STACK))],
                         [NET, TABLES, RUN, STACK])
        run = read_run(net, RUN)
        self.assertEqual((run.losses_of(("x", "a", "f")), run.phase_of(("x", "a", "g")), run.fall), ("x..x", 1, Fall(20000, "x")))
        self.assertEqual(run.contents_of("f"), ((0, ""), (0, "01"), (20000, "1")))

    def test_nets(self):
        chance = dealer(1)
        for net in [odd_net(), Net(("b", "a"), (), (), FrameRule("01"), 1),
                    *[dealt_ways(chance, chance.choice(WAYS), 99, frames=chance.choice(FRAMES))[0] for _ in range(20)],
                    *[dealt_play(chance)[0] for _ in range(20)]]:
            self.assertEqual(read_net(net_text(net)), net)
            self.assertEqual(read_net(text=net_text(net)), net)
            self.assertEqual(net_text(read_net(net_text(net))), net_text(net))

    def test_tables_runs_and_stacks(self):
        chance = dealer(2)
        for _ in range(40):
            net, run = dealt_play(chance)
            run = run.with_fall(chance.choice((None, Fall(chance.randint(0, 20000), net.links[0].name))))
            self.assertEqual(read_run(net, run_text(run)), run)
            self.assertEqual(read_run(text=run_text(run), net=net), run)
            rows = {key: house for key, house in Tables.of(net) if chance.random() < .7}
            self.assertEqual(read_tables(net, tables_text(Tables(net, rows))), Tables(net, rows))
        self.assertEqual(read_tables(text="-", net=odd_net()), Tables(odd_net()))
        self.assertEqual(read_run(odd_net(), "run"), Run(odd_net()))
        for told in [stack(), stack(frames=FrameRule.simple("0", "1")), *stacks(3, 20)]:
            self.assertEqual(read_stack(text=stack_text(told)), told)


class WordsTest(Case):

    def test_a_word_exchanged_for_one_that_cannot_stand(self):
        for page, work in readers():
            for line, words in enumerate(lines_of(page)):
                for at in range(len(words)):
                    for wrong in ("", "?", "A", "~" * 9, "+1", "00", "abcdefghi", "9" * 31, "-1"):
                        lines = lines_of(page)
                        lines[line][at] = wrong
                        # With a stroke less there is a place less, so an index ahead of it cannot stand.
                        if words[at] == "/" and words[0] == "rule":
                            continue
                        if wrong == "00" and (words[0] == "letter" and at == 3 or line == 0 and ":" in words and at > 1):
                            continue
                        self.refused(("BadText", line, at), work, joined(lines))

    def test_a_word_put_in(self):
        for page, work in readers():
            for line, words in enumerate(lines_of(page)):
                for at in range(len(words) + 1):
                    for more in ("", "?"):
                        lines = lines_of(page)
                        lines[line].insert(at, more)
                        self.refused(("BadText", line, at), work, joined(lines))

    def test_the_last_word_left_out(self):
        for page, work in readers():
            for line, words in enumerate(lines_of(page)):
                if words[0] in ("run", "plan", "houses", "there", "back", "lane"):
                    continue
                lines = lines_of(page)
                lines[line].pop()
                told = ("BadText", line, len(words) - 1)
                self.refused(told, work, joined(lines))
                lines[line] = words[:1]
                self.refused(("BadText", line, 1), work, joined(lines))

    def test_words_left_out(self):
        for page, told in ((NET.replace("houses a b c", "houses a"), (1, 2)), (NET.replace("houses a b c", "houses"), (1, 1)),
                           (NET.replace("there 3 f g", "there 3"), (3, 2)), (NET.replace("there 3 f g", "there f g"), (3, 1)),
                           (NET.replace("plan row 1 / row", "plan row 1 /"), (4, 4)), (NET.replace("plan row 1 / row", "plan"), (4, 1)),
                           (NET.replace("net 4 ", "net "), (0, 1)), (NET.replace(" : 011111 0", ""), (0, 3)), (NET.replace("link x a b", "link x a"), (2, 3)),
                           (NET.replace("flow f a b 2 9", "flow f a b 2"), (16, 5)), (NET.replace("flow f a b 2 9", "flow f a 2 9"), (16, 3)),
                           (NET.replace("rule losses 0 1 / 0 -", "rule losses 0 1 / 0"), (5, 6)), (NET.replace("rule losses 0 1 / 0 -", "rule 0 1 / 0 -"), (5, 1))):
            self.refused(("BadText", *told), read_net, page)

    def test_a_line_left_out_told_twice_or_exchanged(self):
        for page, work in readers():
            lines = page.split("\n")
            for at, line in enumerate(lines):
                without, twice, turned = lines[:at] + lines[at + 1:], lines[:at + 1] + lines[at:], lines[:at] + lines[at:at + 2][::-1] + lines[at + 2:]
                for changed in (without, twice, turned):
                    wanted = self.wanted(changed)
                    if wanted is None:
                        continue
                    self.refused(wanted, work, "\n".join(changed))

    def wanted(self, lines):
        """What a row of lines, each of which stood somewhere in a page, is refused for; None if it is not, or not for its order."""
        heads = [line.split(" ")[0] for line in lines]
        if "stack" in heads or heads[-1] == "lane":
            order = ["stack", "plan", "rule", "lane"]
            wrong = [at for at in range(max(len(heads), 4)) if heads[at:at + 1] != order[at:at + 1]]
            return ("BadText", wrong[0], 0) if wrong else None
        if "next" in heads:
            wrong = [at for at in range(1, len(lines)) if lines[at].split(" ")[1:4] <= lines[at - 1].split(" ")[1:4]]
            return ("BadText", wrong[0], 3) if wrong else None
        if "net" in heads or "houses" in heads:
            return self.wanted_net(heads)
        return self.wanted_run(heads, lines)

    def wanted_net(self, heads):
        block = ["link", "there", "plan", "rule", "back", "plan", "rule"]
        at, wanted = 0, ["net", "houses"]
        has_flow = False
        while True:
            for word in wanted:
                if heads[at:at + 1] != [word]:
                    return ("BadText", at, 0)
                at += 1
            if at == len(heads):
                return None
            if heads[at] == "flow":
                has_flow, wanted = True, ["flow"]
            elif heads[at] == "link" and not has_flow:
                wanted = block
            else:
                return ("BadText", at, 0)

    def wanted_run(self, heads, lines):
        if heads[:1] != ["run"]:
            return ("BadText", 0, 0)
        order = ["run", "place", "line", "letter", "fall"]
        for at in range(1, len(heads)):
            words, before = lines[at].split(" "), lines[at - 1].split(" ")
            if heads[at] == "run" or heads[at - 1] == "fall" or order.index(heads[at]) < order.index(heads[at - 1]):
                return ("BadText", at, 0)
            if heads[at] == heads[at - 1]:
                many = {"place": 2, "line": 3, "letter": 1}[heads[at]]
                if words[1:many + 1] < before[1:many + 1] or heads[at] != "letter" and words[1:many + 1] == before[1:many + 1]:
                    return ("BadText", at, many)
                if heads[at] == "letter" and words[1] == before[1] and int(words[2]) < int(before[2]):
                    return ("BadText", at, 2)
        return None

    def test_no_strings_and_no_nets(self):
        net = net_now()
        for value in any_values():
            if not isinstance(value, str):
                self.refused(("BadText", 0, 0), read_net, value)
                self.refused(("BadText", 0, 0), read_stack, value)
                self.refused(("BadText", 0, 0), read_tables, net, value)
                self.refused(("BadText", 0, 0), read_run, net, value)
            self.refused(("BadNet", "net"), read_tables, value, value)
            self.refused(("BadNet", "net"), read_run, value, value)
        for page in ("", " ", "\n", "x", "-1", "\nnet"):
            for _, work in readers():
                self.refused(("BadText", 0, 0), work, page)

    def test_missing_lines(self):
        for page, work in readers():
            lines = page.split("\n")
            for many in range(1, len(lines)):
                words = [line.split(" ")[0] for line in lines[:many]]
                is_whole = page in (TABLES, RUN) or page == NET and many in (2, 9, 16, 17)
                if not is_whole:
                    self.refused(("BadText", many, 0), work, "\n".join(lines[:many]))
                self.assertEqual(len(words), many)
                self.refused(("BadText", many, 0), work, "\n".join(lines[:many]) + "\n")
            self.refused(("BadText", len(lines), 0), work, page + "\n")
            self.refused(("BadText", len(lines), 0), work, page + "\nmore")


class NetTest(Case):

    def test_what_cannot_stand(self):
        for old, new, told in (
                ("net 4", "net 0", (0, 1)), ("net 4", "net 33", (0, 1)), ("net 4", "net 04", (0, 1)), ("net 4 0111111", "net 4 0", (0, 2)),
                ("houses a b c", "houses a b a", (1, 3)), ("houses a b c", "houses a b c d e f g h i j k l m", (1, 13)),
                ("houses a b c", "houses a a", (1, 2)), ("houses a b c", "houses a  b c", (1, 2)), ("houses a b c", "houses a b c ", (1, 4)),
                ("there 3 f g", "there 1001 f g", (3, 1)), ("there 3 f g", "there 3 f" + " g" * 24, (3, 26)), ("there 3 f g", "there 3 f  g", (3, 3)),
                ("flow f a b 2 9", "flow f a b 200 9", (16, 4)), ("flow f a b 2 9", "flow f a b 2 0", (16, 5)), ("flow f a b 2 9", "flow f a b 2 1000000001", (16, 5)),
                ("plan row 1 / row", "plan row 1 / row / row / row / row", (4, 9)), ("plan row 1 / row", "plan row 2 1 / row", (4, 3)),
                ("rule losses 0 1 / 0 -", "rule losses 0 1 / 0 1", (5, 1)), ("rule losses 0 1 / 0 -", "rule losses 0 2 / 0 -", (5, 3)),
                ("rule losses 0 -", "rule losses 0 - / 0 -", (8, 1)), ("link x a b", "link x a b c", (2, 4)), ("link x a b", "line x a b", (2, 0))):
            self.refused(("BadText", *told), read_net, NET.replace(old, new, 1))

    def test_what_classes_raise_line_by_line(self):
        for old, new, told in (
                ("plan row 1 / row", "plan mute", ("BadPlan", "mute")),
                ("plan row 1 / row", "plan row 1 / mute", ("BadPlan", 0)), ("rule losses 0 1 / 0 -", "rule losses 1 - / 2 0 / 0 -", ("BadRule", "calm")),
                ("link x a b", "link x a a", ("BadNet", "other")), ("flow f a b 2 9", "flow f a a 2 9", ("BadNet", "end")),
                ("link x a b", "link x a d", ("NoHouse", "d")), ("flow f a b 2 9", "flow f d b 2 9", ("NoHouse", "d")), ("link x a b", "link y a b", ("Clashing", "y")),
                ("link x a b", "link x b c", ("Clashing", "y")), ("flow g c b", "flow f c b", ("Clashing", "f")), ("link x a b", "link a a b", ("Clashing", "a"))):
            page = NET.replace(old, new, 1)
            self.assertNotEqual(page, NET)
            self.refused(told, read_net, page)
        many = NET + "".join([f"\nflow {name} a b 0 1" for name in "hijkl"])
        self.refused(("TooMany", "flows", 6), read_net, many)
        self.assertEqual(len(read_net(many[:many.rindex("\n")]).flows), 6)

    def test_lines_first_then_what_is_behind(self):
        calm, same = ("rule losses 0 1 / 0 -", "rule losses 1 - / 2 0 / 0 -"), ("link x a b", "link x a a")
        # A lane behind its three lines, a link behind its seven, the net behind all.
        page = NET.replace(*calm, 1)
        self.refused(("BadText", 4, 1), read_net, page.replace("plan row 1 / row", "plan x", 1))
        self.refused(("BadRule", "calm"), read_net, page.replace("back 0 f", "back x f", 1))
        self.refused(("BadText", 6, 1), read_net, NET.replace(*same, 1).replace("back 0 f", "back x f", 1))
        self.refused(("BadText", 8, 1), read_net, NET.replace(*same, 1).replace("rule losses 0 -", "rule x", 1))
        self.refused(("BadNet", "other"), read_net, NET.replace(*same, 1).replace("link y b c", "link y b", 1))
        self.refused(("BadRule", "calm"), read_net, page.replace(*same, 1))
        self.refused(("BadPlan", "mute"), read_net, NET.replace("plan row 1 / row", "plan mute", 1).replace("rule losses 0 1 / 0 -", "rule", 1))
        self.refused(("BadNet", "end"), read_net, NET.replace("flow f a b 2 9", "flow f a a 2 9").replace("flow g", "flaw g"))
        self.refused(("BadText", 17, 1), read_net, NET.replace("link x a b", "link x a d", 1).replace("flow g", "flow G"))

    def test_lines_that_cannot_come(self):
        lines = NET.split("\n")
        for changed, told in ((lines[:2] + lines[16:] + lines[2:16], (4, 0)), (lines[:1] + lines[2:], (1, 0)), (lines[:3] + lines[6:], (3, 0)),
                              (lines[:6] + lines[9:], (6, 0)), (lines[:4] + lines[5:], (4, 0)), (lines[:17] + [lines[1]], (17, 0))):
            self.refused(("BadText", *told), read_net, "\n".join(changed))


class TablesTest(Case):

    def test_what_cannot_stand(self):
        net = net_now()
        for old, new, told in (
                ("next a f first b", "next d f first b", (0, 1)), ("next a f first b", "next x f first b", (0, 1)), ("next a f first b", "next a x first b", (0, 2)),
                ("next a f first b", "next a f third b", (0, 3)), ("next a f first b", "next a f first c", (0, 4)), ("next a f first b", "next a f first a", (0, 4)),
                ("next a f first b", "next a f first d", (0, 4)), ("next a f first b", "next a g first b", (1, 3)), ("next a f first b", "next b f first a", (1, 3)),
                ("next a g spare b", "next a g first b", (2, 3)), ("next a g spare b", "next a f spare b", (2, 3)), ("next a f first b", "-", (1, 0)),
                ("next a g first b", "-", (1, 0)), ("next a f first b", "- a", (0, 1)), ("next a f first b", "next a f first b b", (0, 5))):
            self.refused(("BadText", *told), read_tables, net, TABLES.replace(old, new, 1))
        for page, told in (("- ", (0, 1)), ("- -", (0, 1)), ("-\n", (1, 0)), ("-\n-", (1, 0)), ("-\nnext a f first b", (1, 0)), ("next a f first b\n-", (1, 0)),
                           ("--", (0, 0)), ("next", (0, 1)), ("next a", (0, 2)), ("next a f", (0, 3)), ("next a f first", (0, 4)), ("next a f fir", (0, 3))):
            self.refused(("BadText", *told), read_tables, net, page)


class RunTest(Case):

    def test_what_cannot_stand(self):
        net = net_now()
        for old, new, told in (
                ("run", "run run", (0, 1)), ("place x a 1", "place z a 1", (1, 1)), ("place x a 1", "place a a 1", (1, 1)), ("place x a 1", "place x c 1", (1, 2)),
                ("place x a 1", "place x d 1", (1, 2)), ("place x a 1", "place x a 0", (1, 3)), ("place x a 1", "place x a 2", (1, 3)), ("place x a 1", "place x b 1", (1, 3)),
                ("place x a 1", "place y b 1", (2, 2)), ("place x a 1", "place y c 1", (2, 2)), ("place y b 2", "place y b 3", (2, 3)),
                ("line x a f 1 x..x", "line z a f 1 x", (3, 1)), ("line x a f 1 x..x", "line x c f 1 x", (3, 2)), ("line x a f 1 x..x", "line x d f 1 x", (3, 2)),
                ("line x a f 1 x..x", "line x b g 0 x", (3, 3)), ("line x a f 1 x..x", "line x a x 0 x", (3, 3)), ("line x a f 1 x..x", "line x a g 1 x", (4, 3)),
                ("line x a f 1 x..x", "line y b g 0 x", (4, 3)), ("line x a f 1 x..x", "line x a f 2 x", (3, 4)), ("line y b f 0 .x", "line y b f 1 .x", (5, 4)),
                ("line x a f 1 x..x", "line x a f 1 xx", (3, 5)), ("line x a f 1 x..x", "line x a f 1 x.", (3, 5)), ("line x a f 1 x..x", "line x a f 1 .", (3, 5)),
                ("line x a f 1 x..x", "line x a f 1 " + "." * 400 + "x", (3, 5)), ("line x a g 1 -", "line x a g 0 -", (4, 5)), ("line x a f 1 x..x", "line x a f 0 ..", (3, 5)),
                ("line x a f 1 x..x", "line x a f 1 x-x", (3, 5)), ("line x a f 1 x..x", "line x a f 1 x..x x", (3, 6)),
                ("letter f 0 -", "letter a 0 -", (6, 1)), ("letter f 0 -", "letter x 0 -", (6, 1)), ("letter f 0 -", "letter f 20001 -", (6, 2)), ("letter f 0 -", "letter f 1 -", (7, 2)),
                ("letter f 0 -", "letter g 0 -", (7, 1)), ("letter f 0 01", "letter f 0 010", (7, 3)), ("letter f 0 01", "letter f 0 02", (7, 3)), ("letter f 0 01", "letter f 0 01 1", (7, 4)),
                ("letter g 7 -", "letter g 7 " + "1" * 200, (9, 3)), ("letter g 7 -", "letter g 7 " + "1" * 201, (9, 3)),
                ("fall x at 20000", "fall d at 1", (10, 1)), ("fall x at 20000", "fall f at 1", (10, 1)), ("fall x at 20000", "fall x on 1", (10, 2)),
                ("fall x at 20000", "fall x at 20001", (10, 3)), ("fall x at 20000", "fall x at 1 1", (10, 4)), ("fall x at 20000", "fall x at", (10, 3))):
            page = RUN.replace(old, new, 1)
            self.assertNotEqual(page, RUN)
            self.refused(("BadText", *told), read_run, net, page)
        for more in ("fall x at 3", "letter g 7 -", "run", "place y c 1"):
            self.refused(("BadText", 11, 0), read_run, net, RUN + "\n" + more)

    def test_slots_of_names_that_are_no_flows(self):
        net = net_now() | Link("x", "a", "b", Lane(Round("h", "f")), Lane(Round("f")))
        self.refused(("BadText", 1, 3), read_run, net, "run\nline x a h 0 -")
        self.refused(("BadText", 1, 5), read_run, net, "run\nline x a f 0 -")

    def test_edges_that_can_stand(self):
        net = net_now()
        for old, new in (("line x a f 1 x..x", "line x a f 1 " + "." * 399 + "x"), ("letter g 7 -", "letter g 7 " + "1" * 199), ("letter f 20000 1", "letter f 0 1"),
                         ("fall x at 20000", "fall y at 0"), ("letter g 7 -", "letter g 0 0"), ("line x a f 1 x..x", "line x a f 0 x")):
            page = RUN.replace(old, new, 1)
            self.assertEqual(run_text(read_run(net, page)), page)
        self.assertEqual(read_run(net, "run\nfall x at 3"), Run(net, fall=Fall(3, "x")))

    def test_what_the_class_raises_last(self):
        net = net_now()
        page = "run" + "\nletter f 0 -" * 41 + "\nletter g 0 -"
        self.refused(("BadRun", "letters"), read_run, net, page)
        self.assertEqual(len(read_run(net, page.replace("letter f 0 -\n", "", 1)).contents_of("f")), 40)
        for house in "abc":
            self.refused(("BadRun", "house"), read_run, net, f"run\nfall {house} at 3")
        self.refused(("BadRun", "letters"), read_run, net, page + "\nfall a at 3")
        self.refused(("BadText", 43, 3), read_run, net, page + "\nfall a at x")
        other = net | Flow("g", "a", "b", 1, 1)
        self.assertEqual(read_run(other, "run\nfall c at 3").fall, Fall(3, "c"))


class StackTest(Case):

    def test_what_cannot_stand(self):
        for old, new, told in (
                ("stack 4", "stack 0", (0, 1)), ("stack 4", "stack 33", (0, 1)), ("stack 4 011 : 01 0", "stack 4 011 01 0", (0, 3)), ("plan row 1", "plan row 5", (1, 2)),
                ("plan row 1", "plan", (1, 1)), ("rule losses 0 1 / 0 -", "rule losses 0 1 / 0 - /", (2, 8)), ("rule losses 0 1 / 0 -", "rule", (2, 1)),
                ("lane 2 a a b b", "lane 1001 a a", (3, 1)), ("lane 2 a a b b", "lane 2 - a", (3, 2)), ("lane 2 a a b b", "lane 2 a", (3, 3)), ("lane 2 a a b b", "lane 2", (3, 2)),
                ("lane 2 a a b b", "lane 2 a a B", (3, 4)), ("lane 2 a a b b", "lane 2 a" + " a" * 25, (3, 27))):
            self.refused(("BadText", *told), read_stack, STACK.replace(old, new, 1))

    def test_what_classes_raise(self):
        for old, new, told in (
                ("plan row 1", "plan mute", ("BadPlan", "mute")), ("plan row 1", "plan row 1 / mute", ("BadPlan", 0)),
                ("rule losses 0 1 / 0 -", "rule losses 1 - / 2 0 / 0 -", ("BadStack", "rule")), ("lane 2 a a b b", "lane 2 c a b b", ("BadStack", "flow")),
                ("plan row 1", "plan row", ("BadStack", "line")), ("stack 4 011 : 01 0", "stack 4 01 :", ("Clashing", "flag"))):
            page = STACK.replace(old, new, 1)
            self.refused(told, read_stack, page)
        page = STACK.replace("rule losses 0 1 / 0 -", "rule losses 1 - / 2 0 / 0 -")
        self.refused(("BadText", 3, 1), read_stack, page.replace("lane 2", "lane x"))
        self.refused(("BadText", 4, 0), read_stack, page + "\nlane 2 a a")
        self.refused(("BadPlan", "mute"), read_stack, STACK.replace("plan row 1", "plan mute").replace("lane", "lain"))
        self.assertEqual(read_stack(STACK), stack())
        self.assertEqual(read_stack(STACK.replace("stack 4 011 : 01 0", "stack 32 011 : 01 0")), stack(frames=SHORT, size=32))
