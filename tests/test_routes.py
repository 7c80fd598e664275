"""Ways of flows: asked, and two that are apart or what all have, against all ways that the test walks itself."""

from itertools import combinations, permutations

from layerpost.nets import Net
from layerpost.routes import Apart, Cut, apart, is_way, lanes_back, lanes_on
from layerpost.verdicts import Verdict
from tests.helpers import Case, any_values, dealer
from tests.nets import are_apart, dealt_net, example_net, joined, link, links_on, net_of, walked_side, walked_ways


def wrong_answers(net):
    """What no way is, of all kinds."""
    return [*any_values(), net, "ad", "abd", ["a", "b", "d"], ("a",), ("d",), (), ("a", "d"), ("b", "d"), ("a", "b"),
            ("a", "b", "c"), ("d", "b", "a"), ("a", "b", "a", "c", "d"), ("a", "b", "c", "d", "d"), ("a", "b", "d", "c"),
            ("a", None, "d"), ("a", ["b"], "d"), ("a", "z", "d"), ("a", "ab", "d"), (True, "b", "d")]


class WaysTest(Case):

    def test_is_way(self):
        chance = dealer(1)
        for _ in range(25):
            net = dealt_net(chance, most=5, many=8, own=.85)
            ways = set(walked_ways(net, "x"))
            for many in range(len(net) + 1):
                for houses in permutations(net.houses, many):
                    self.assertIs(is_way(net, "x", houses), houses in ways)

    def test_both_lanes_must_have_own_slots(self):
        for there, back, wanted in (("x", "x", True), ("x", "y", False), ("y", "x", False), ("-", "-", False)):
            net = net_of("abd", "ab") | link("bd", "d", "b", there, back)
            self.assertIs(is_way(net, flow="x", houses=("a", "b", "d")), wanted)

    def test_values_of_all_kinds(self):
        net = example_net()
        for value in wrong_answers(net):
            self.assertIs(is_way(net, "x", value), False)
        for value in (("a", "b", "d"), ("a", "c", "d"), ("a", "b", "c", "d"), ("a", "c", "b", "d")):
            self.assertIs(is_way(net=net, flow="x", houses=value), True)

    def test_lanes(self):
        net = Net("a b c d".split(), [link("ab", "a", "b", "x a", "x b"), link("cb", "c", "b", "x c", "x d"),
                                      link("cd", "c", "d", "e", "f")], [], example_net().rule, 4)
        texts = {("a", "b"): "x a", ("b", "a"): "x b", ("c", "b"): "x c", ("b", "c"): "x d", ("c", "d"): "e", ("d", "c"): "f"}
        for houses in (("a", "b"), ("b", "a"), ("a", "b", "c", "d"), ("a", "b", "a"), ("d", "c", "d", "c", "b", "c")):
            steps = list(zip(houses, houses[1:]))
            self.assertEqual([str(one.ring) for one in lanes_on(net, houses)], [texts[step] for step in steps])
            back = [str(one.ring) for one in lanes_back(net=net, houses=houses)]
            self.assertEqual(back, [texts[(other, one)] for one, other in steps[::-1]])
        self.assertIsInstance(lanes_on(net, ("a", "b")), tuple)

    def test_lanes_of_what_is_no_row(self):
        net = example_net()
        for value in [*any_values(), "ab", ["a", "b"], ("a",), (), ("a", "d"), ("a", "b", "z"), ("a", "a"), ("a", "b", "b"),
                      ("a", None), ("a", "ab"), (["a"], "b"), ("a", "b", ("c",))]:
            self.refused(("BadTable", "houses"), lanes_on, net, value)
            self.refused(("BadTable", "houses"), lanes_back, net, value)


class ApartTest(Case):

    def test_against_all_ways(self):
        chance = dealer(2)
        found = {"apart": 0, "house": 0, "link": 0, "none": 0}
        for _ in range(800):
            net = dealt_net(chance, many=11)
            found[self.checked(net)] += 1
        self.assertGreater(min(found.values()), 25)

    def test_against_all_ways_of_larger_nets(self):
        chance = dealer(3)
        found = [self.checked(dealt_net(chance, most=10, many=18, own=1, least=8)) for _ in range(500)]
        self.assertGreater(found.count("apart"), 150)

    def checked(self, net):
        """apart is right for the flow x of a net; the kind of its answer."""
        ways, answer = walked_ways(net, "x"), apart(net, "x")
        pairs = [pair for pair in combinations(ways, 2) if are_apart(net, *pair)]
        if pairs:
            self.assertIsInstance(answer, Apart)
            self.assertTrue(answer.main in ways and answer.spare in ways and answer)
            self.assertTrue(are_apart(net, answer.main, answer.spare))
            self.assertLessEqual(len(answer.main), len(answer.spare))
            self.assertEqual(len(answer.main + answer.spare), min([len(one + other) for one, other in pairs]))
            self.assertEqual(apart(net, "x"), answer)
            return "apart"
        self.assertIsInstance(answer, Cut)
        self.assertFalse(answer)
        if not ways:
            self.assertEqual(answer, Cut(None, walked_side(net, "x", None)))
            return "none"
        common = set(ways[0][1:-1] + tuple(links_on(net, ways[0])))
        for way in ways:
            common &= set(way[1:-1]) | set(links_on(net, way))
        self.assertEqual(answer, Cut(min(common), walked_side(net, "x", min(common))))
        return "house" if answer.name in net.houses else "link"

    def test_nets_whose_shortest_way_leaves_no_other_one(self):
        # The shortest way is a b e h; the two that are apart go beside it, and no other two are.
        for names in ("abcdefgh", "hgfedcba", "cahfbged", "dhbfagec"):
            swap = dict(zip("abcdefgh", names))
            pairs = " ".join([swap[one] + swap[other] for one, other in "ab be eh ac cd de bf fg gh".split()])
            net = net_of("abcdefgh", pairs, [("x", names[0], names[7])])
            ways = walked_ways(net, "x")
            least = min(ways, key=len)
            self.assertEqual(len(least), 4)
            self.assertEqual([way for way in ways if len(way) == 4], [least])
            self.assertFalse([way for way in ways if are_apart(net, way, least)])
            answer = apart(net, "x")
            wanted = {tuple([swap[house] for house in way]) for way in ("abfgh", "acdeh")}
            self.assertEqual({answer.main, answer.spare}, wanted)
            self.assertEqual(self.checked(net), "apart")

    def test_nets_whose_shortest_way_is_none_of_the_best_two(self):
        # Beside a b c d h there is a e f g l j k h; the best two go by e f g d and by b i j k, with a house less.
        for names in ("abcdefghijkl", "lkjihgfedcba", "afkbglchdiej", "adgjbehkcfil"):
            swap = dict(zip("abcdefghijkl", names))
            pairs = " ".join([swap[one] + swap[other] for one, other in "ab bc cd dh ae ef fg gd bi ij jk kh gl lj".split()])
            net = net_of("abcdefghijkl", pairs, [("x", names[0], names[7])])
            self.assertEqual(min(map(len, walked_ways(net, "x"))), 5)
            self.assertEqual(self.checked(net), "apart")
            wanted = {tuple([swap[house] for house in way]) for way in ("aefgdh", "abijkh")}
            self.assertEqual({apart(net, "x").main, apart(net, "x").spare}, wanted)

    def test_ways_that_share_only_their_ends(self):
        net = net_of("abd", "ab bd ad")
        self.assertEqual(apart(net, "x"), Apart(("a", "d"), ("a", "b", "d")))
        # One link is one way: it is not apart from itself.
        self.assertEqual(apart(net_of("abd", "ad ab"), "x"), Cut("ad", ("a", "b")))

    def test_the_least_name_of_houses_and_links(self):
        # Links ascend with the houses, as texts: `ab` comes behind `a` and ahead of `b`.
        self.assertEqual(apart(net_of("abd", "ab bd"), "x"), Cut("ab", ("a",)))
        self.assertEqual(apart(net_of("abd", "ba db"), flow="x"), Cut("b", ("a",)))
        self.assertEqual(apart(net_of("abcd", "ab ac bc cd"), "x"), Cut("c", ("a", "b")))
        self.assertEqual(apart(net_of("abcd", "ba bc bd cd"), "x"), Cut("b", ("a",)))
        net = net_of("abcd", "bc bd cd") | link("aa", "a", "b")
        self.assertEqual(apart(net=net, flow="x"), Cut("aa", ("a",)))

    def test_no_way(self):
        self.assertEqual(apart(net_of("abcd", "ab cd"), "x"), Cut(None, ("a", "b")))
        self.assertEqual(apart(net_of("ad", ""), "x"), Cut(None, ("a",)))
        net = net_of("abd", "ab") | link("bd", "b", "d", "x", "y")
        self.assertEqual(apart(net, "x"), Cut(None, ("a", "b")))
        self.assertEqual(joined(net, "b", "d").name, "bd")

    def test_twelve_houses(self):
        houses = "abcdefghijkl"
        pairs = [one + other for one, other in combinations(houses, 2)][:30]
        self.checked_big(net_of(houses, " ".join(pairs), [("x", "a", "l")]))
        rings = [houses[at] + houses[(at + 1) % 12] for at in range(12)]
        self.checked_big(net_of(houses, " ".join(rings), [("x", "b", "h")]))

    def checked_big(self, net):
        answer = apart(net, "x")
        self.assertTrue(answer)
        self.assertTrue(is_way(net, "x", answer.main) and is_way(net, "x", answer.spare))
        self.assertTrue(are_apart(net, answer.main, answer.spare))


class PapersTest(Case):

    def test_papers(self):
        values = any_values()
        for at, value in enumerate(values):
            other = values[at - 1]
            for one, same in ((Apart(value, other), Apart(spare=other, main=value)), (Cut(value, other), Cut(side=other, name=value))):
                self.assertEqual(one, same)
                self.assertIsInstance(one, Verdict)
            self.assertEqual((vars(Apart(value, other)), bool(Apart(value, other))), ({"main": value, "spare": other}, True))
            self.assertEqual((vars(Cut(value, other)), bool(Cut(value, other))), ({"name": value, "side": other}, False))
        self.assertFalse(Apart(1, 2) == Apart(1, 3) or Apart(1, 2) == Apart(3, 2) or Apart(1, 2) == Cut(1, 2))
        self.assertFalse(Cut(1, 2) == Cut(1, 3) or Cut(1, 2) == Cut(3, 2) or Cut(1, 2) == Apart(1, 2) or Cut(1, 2) == (1, 2))


class RefusedTest(Case):

    def test_nets_and_flows(self):
        net = example_net()
        for value in [*any_values(), "x", net.links[0]]:
            self.refused(("BadNet", "net"), is_way, value, value, value)
            self.refused(("BadNet", "net"), apart, value, value)
            self.refused(("BadNet", "net"), lanes_on, value, value)
            self.refused(("BadNet", "net"), lanes_back, value, value)
        for value in [*any_values(), "y", "a", "ab", net.flows[0], ("x",)]:
            self.refused(("NoFlow", value), is_way, net, value, value)
            self.refused(("NoFlow", value), apart, net, value)
