import itertools
import unittest

from bundled import GROUPS, INNER, NET, TIES, drawn_bundle, some_bundles
from drawn import Chance
from outsigns.bundles import Bundle
from outsigns.closings import Closing
from outsigns.errors import InvalidBundle, InvalidNet, InvalidPart, OtherNet, UnknownLink, UnknownNode
from outsigns.nets import Net
from outsigns.rows import Rows
from outsigns.signs import Signs
from refusals import Refusals
from shapes import KNOTS
from values import NOT_LINKS, NOT_LISTS, NOT_NAMES, NOT_NETS, widest_net

SOME = Bundle(NET, GROUPS, INNER, TIES)
NOT_BUNDLES = [None, True, 0, "", [], (), {}, (GROUPS, INNER, TIES), NET, Closing(), Signs(NET), Rows(NET), Bundle]


def told(bundle):
    """All that a bundle tells of itself."""
    return [bundle.net, bundle.groups(), bundle.inner(), bundle.ties(), bundle.small, bundle.kind,
            [bundle.group_of(node) for node in bundle.net.nodes()]]


def ordered(links):
    return sorted(tuple(sorted(link)) for link in links)


def plainly_fits(one, other):
    """The groups, inner links and ties of one >> other by [63]."""
    lists = {group[0]: group for group in one.groups()}
    groups = [[node for name in group for node in lists[name]] for group in other.groups()]
    where = {node: group[0] for group in groups for node in group}
    inner = [link for link in one.inner() if link[0] in where]
    inner += [one.tie(*link) for link in other.inner()]
    return groups, inner, [one.tie(*link) for link in other.ties()]


class PartsTest(Refusals):
    def test_example(self):
        self.assertEqual(told(SOME), [
            NET, [["b", "a"], ["c"], ["f", "d", "e"]], [("a", "b"), ("d", "e"), ("e", "f")],
            [("a", "d"), ("b", "c"), ("c", "f")], Net.full("b", "c", "f"), None,
            ["b", "b", "c", "f", "f", "f", None, None]])
        self.assertEqual([SOME.tie("b", "f"), SOME.tie("f", "b"), SOME.tie(one="c", other="b")],
                         [("a", "d"), ("a", "d"), ("b", "c")])
        self.assertEqual([SOME.group_of(node="d"), SOME.group_of("x")], ["f", None])

    def test_drawn_bundles(self):
        for net, groups, inner, ties in some_bundles(120):
            bundle = Bundle(net, groups, inner, ties)
            name = {node: group[0] for group in groups for node in group}
            lists = sorted([group[0], *sorted(group[1:])] for group in groups)
            small = Net([group[0] for group in groups], [(name[one], name[other]) for one, other in ties])
            self.assertEqual(told(bundle)[:5], [net, lists, ordered(inner), ordered(ties), small])
            self.assertEqual(told(bundle)[6], [name.get(node) for node in net.nodes()])
            for one, other in ties:
                link = tuple(sorted((one, other)))
                self.assertEqual([bundle.tie(name[one], name[other]), bundle.tie(name[other], name[one])], [link] * 2)
            for one, other in itertools.product(net.nodes(), repeat=2):
                if (one, other) not in small:
                    self.refused(UnknownLink, {"value": (one, other)}, lambda: bundle.tie(one, other))

    def test_any_sequence(self):
        for seed, (net, groups, inner, ties) in enumerate(some_bundles(40)):
            chance, bundle = Chance(seed), Bundle(net, groups, inner, ties)
            others = tuple((group[0], *chance.shuffled(group[1:])) for group in chance.shuffled(groups))
            links = [tuple(link[::chance.pick([1, -1])] for link in chance.shuffled(part)) for part in (inner, ties)]
            other = Bundle(ties=links[1], inner=links[0], groups=others, net=Net(net.nodes()[::-1], net.links()))
            self.assertEqual(other, bundle)
            self.assertEqual(told(other), told(bundle))

    def test_another_first_node_is_another_bundle(self):
        other = Bundle(NET, [["a", "b"], ["c"], ["f", "e", "d"]], INNER, TIES)
        self.assertNotEqual(other, SOME)
        self.assertEqual([other.small.nodes(), other.group_of("b"), other.tie("a", "c")], [["a", "c", "f"], "a", ("b", "c")])

    def test_single(self):
        for net in (NET, Net(["a"]), widest_net(), *KNOTS):
            bundle = Bundle.single(net)
            self.assertEqual(told(bundle)[:5], [net, [[node] for node in net.nodes()], [], net.links(), net])
            self.assertEqual(bundle, Bundle(net, [[node] for node in net.nodes()[::-1]], (), net.links()[::-1]))
            self.assertTrue(all(bundle.tie(*link) == link for link in net.links()))
        self.assertEqual(SOME.single(net=NET), Bundle.single(NET))
        for value in NOT_NETS + [SOME]:
            self.refused(InvalidNet, {"value": value}, lambda: Bundle.single(value))

    def test_nodes_and_links_that_do_not_count(self):
        bundle = Bundle(NET, [["c"]], [], [])
        self.assertEqual(told(bundle)[1:6], [[["c"]], [], [], Net(["c"]), None])
        self.assertEqual(Bundle(NET, (("c",), ("b",)), (), ()).small, Net(["b", "c"]))

    def test_equal(self):
        parts = [(NET, GROUPS, INNER, TIES), (NET + ("x", "y"), GROUPS, INNER, TIES), (NET, GROUPS, INNER, TIES[1:]),
                 (NET, [*GROUPS, ["x"]], INNER, TIES), (NET, GROUPS, INNER, [("b", "c"), ("b", "e"), ("f", "c")]),
                 (NET, [["b", "a"], ["c"], ["e", "d", "f"]], INNER, TIES)]
        made = [Bundle(*part) for part in parts]
        for at, one in enumerate(made):
            for by, other in enumerate(made):
                self.assertEqual([one == other, one != other], [at == by, at != by])
        for value in NOT_BUNDLES:
            self.assertIs(SOME == value, False)
            self.assertIs(SOME != value, True)

    def test_what_was_passed_or_returned_can_be_changed(self):
        groups, inner, ties = [list(group) for group in GROUPS], list(INNER), list(TIES)
        bundle = Bundle(NET, groups, inner, ties)
        groups[0].append("y")
        groups[2].reverse()
        for part in (groups, inner, ties):
            part.clear()
        for part in (bundle.groups()[2], bundle.groups(), bundle.inner(), bundle.ties()):
            part.clear()
        self.assertEqual([bundle, told(bundle)], [SOME, told(SOME)])


class KindTest(Refusals):
    def test_single_nets(self):
        nets = [(Net.full("a", "b", "c", "d"), "four"), (KNOTS[1], "five"), (KNOTS[2], None), (KNOTS[3], None),
                (KNOTS[5], None), (Net.full("a", "b", "c"), None), (Net.ring("a", "b", "c", "d") + ("a", "c"), None),
                (Net.full("a", "b", "c", "d") | Net(["e"]), None), (Net(["a"]), None),
                (Net.of(*[(one, other) for one in "bd" for other in "ace"]), "five"),
                (Net.ring("a", "b", "c", "d", "e") + ("a", "c"), None), (KNOTS[1] - ("a", "c") + ("a", "b"), None),
                (Net.full("a", "b", "c") | Net.ring("c", "d", "e"), None), (KNOTS[1] | Net(["x"]), None)]
        for net, kind in nets:
            self.assertEqual(Bundle.single(net).kind, kind, net)

    def test_all_nets_of_five_nodes_and_six_links(self):
        pairs = list(itertools.combinations("abcde", 2))
        found = 0
        for links in itertools.combinations(pairs, 6):
            sets = [set(two) for two in itertools.combinations("abcde", 2)]
            five = any({frozenset(link) for link in links} == {frozenset((one, other)) for one in two
                                                                for other in set("abcde") - two} for two in sets)
            self.assertEqual(Bundle.single(Net("a b c d e".split(), links)).kind, "five" if five else None)
            found += five
        self.assertEqual(found, 10)

    def test_groups(self):
        net = Net.ring("a", "b", "c", "d", "e", "f") + ("a", "d") + ("b", "e") + ("c", "f")
        four = Bundle(net, [["a", "f"], ["b"], ["c", "d"], ["e"]], [("a", "f"), ("c", "d")],
                      [("a", "b"), ("a", "d"), ("e", "f"), ("b", "c"), ("b", "e"), ("d", "e")])
        self.assertEqual([four.kind, four.small], ["four", Net.full("a", "b", "c", "e")])
        five = Bundle(net, [["c"], ["a", "b"], ["e"], ["d"], ["f"]], [("b", "a")],
                      [("a", "f"), ("a", "d"), ("b", "c"), ("e", "d"), ("e", "f")])
        self.assertEqual(five.kind, None)
        five = Bundle(net, [["b"], ["d"], ["a"], ["c"], ["e"]], [], [("b", "a"), ("b", "c"), ("b", "e"), ("a", "d"),
                                                                     ("c", "d"), ("d", "e")])
        self.assertEqual(five.kind, "five")


class WrongPartsTest(Refusals):
    def wrong(self, name, *parts):
        self.refused(InvalidPart, {"name": name}, lambda: Bundle(NET, *parts))

    def test_net(self):
        for value in NOT_NETS + [SOME]:
            self.refused(InvalidNet, {"value": value}, lambda: Bundle(value, None, None, None))

    def test_groups(self):
        for value in NOT_LISTS + [[], (), NET, SOME, Rows(NET)]:
            self.wrong("groups", value, None, None)
        for value in NOT_LISTS + [[], (), ["x", "x"], ["a"], ["x", "q"], ["x", 1], [None], [["x"]], ["X"], [True]]:
            self.wrong("groups", [["b", "a"], value, ["c"]], 1, None)
            self.wrong("groups", (("b", "a"), value), 1, None)
        for value in NOT_NAMES:
            if value != "x":
                self.wrong("groups", [["b", "a"], ["c", value]], [], [])
        self.wrong("groups", [["b", "a"], ["c"], ["c"]], [], [])

    def test_inner(self):
        for value in NOT_LISTS + [NET, SOME]:
            self.wrong("inner", GROUPS, value, None)
        for value in NOT_LINKS:
            if value not in [("a", "b"), ("b", "a")]:
                self.wrong("inner", GROUPS, [value, *INNER[1:]], None)
                self.wrong("inner", GROUPS, [*INNER, value], None)
        less = [INNER[:2], INNER[1:], []]
        twice = [[*INNER, ("a", "b")], [*INNER[1:], ("e", "d")], [INNER[0], INNER[0], INNER[1]]]
        between = [[*INNER, ("b", "c")], [("a", "b"), ("d", "e"), ("c", "f")], [("a", "d"), *INNER[1:]]]
        unknown = [[("a", "b"), ("d", "e"), ("d", "f")], [("a", "b"), ("d", "e"), ("e", "q")], [*INNER, ("a", "y")],
                   [("a", "y"), *INNER[1:]], [["a", "b"], *INNER[1:]], ["ab", *INNER[1:]]]
        for value in less + twice + between + unknown:
            self.wrong("inner", GROUPS, value, None)
            self.wrong("inner", GROUPS, tuple(value), None)

    def test_inner_links_that_do_not_join(self):
        net = Net.full("a", "b", "c", "d") | Net.ring("e", "f", "g") | Net.path("d", "e")
        good = [("a", "b"), ("b", "c"), ("c", "d"), ("e", "f"), ("f", "g")]
        groups = [["a", "b", "c", "d"], ["e", "f", "g"]]
        self.assertEqual(Bundle(net, groups, good, [("d", "e")]).inner(), good)
        for inner in [[("a", "b"), ("b", "c"), ("a", "c"), ("e", "f"), ("f", "g")],
                      [("a", "b"), ("c", "d"), ("e", "f"), ("f", "g"), ("e", "g")],
                      [("a", "b"), ("b", "c"), ("c", "d"), ("a", "d"), ("e", "f")],
                      [*good, ("e", "g")], [*good, ("a", "d")], good[:4], good[1:], [*good, ("d", "e")]]:
            self.refused(InvalidPart, {"name": "inner"}, lambda: Bundle(net, groups, inner, []))
        self.assertEqual(Bundle(net, [["e", "g"], ["f"]], [("e", "g")], []).small, Net(["e", "f"]))
        self.refused(InvalidPart, {"name": "inner"}, lambda: Bundle(net, [["e", "g"]], [("e", "f")], []))

    def test_ties(self):
        for value in NOT_LISTS + [NET, SOME]:
            self.wrong("ties", GROUPS, INNER, value)
        for value in NOT_LINKS:
            if value not in [("a", "d"), ("d", "a")]:
                self.wrong("ties", GROUPS, INNER, [("b", "c"), value])
        wrong = [[*TIES, ("a", "d")], [*TIES, ("d", "a")], [*TIES, ("b", "e")], [("a", "d"), ("e", "b")],
                 [*TIES[1:], ("a", "b")], [("d", "e")], [("a", "y")], [("c", "d"), ("c", "f")], [("a", "c")],
                 [("a", "q")], [["b", "c"]], ["bc"]]
        for value in wrong:
            self.wrong("ties", GROUPS, INNER, value)
            self.wrong("ties", GROUPS, INNER, tuple(value))


class AskedTest(Refusals):
    def test_unknown(self):
        for value in NOT_NAMES + ["q", ("a", "b")]:
            self.refused(UnknownNode, {"value": value}, lambda: SOME.group_of(value))
        for value in NOT_NAMES + ["a", "e", "x", "y", "q", "f"]:
            if value == "b":
                continue
            if value != "f":
                self.refused(UnknownLink, {"value": ("b", value)}, lambda: SOME.tie("b", value))
                self.refused(UnknownLink, {"value": (value, "b")}, lambda: SOME.tie(value, "b"))
            self.refused(UnknownLink, {"value": (value, value)}, lambda: SOME.tie(value, value))
        less = Bundle(NET, GROUPS, INNER, TIES[1:])
        self.refused(UnknownLink, {"value": ("c", "b")}, lambda: less.tie("c", "b"))


class PutTogetherTest(Refusals):
    def test_against_the_document(self):
        for seed, parts in enumerate(some_bundles(80)):
            one = Bundle(*parts)
            other = Bundle(*drawn_bundle(Chance(seed + 500), one.small))
            before = [told(one), told(other)]
            found = one >> other
            self.assertIsInstance(found, Bundle)
            self.assertEqual(found, Bundle(one.net, *plainly_fits(one, other)))
            self.assertEqual([found.net, found.small], [one.net, other.small])
            self.assertEqual([told(one), told(other)], before)
            self.assertEqual(told(found), told(Bundle(one.net, *plainly_fits(one, other))))

    def test_three(self):
        for seed, parts in enumerate(some_bundles(80)):
            one = Bundle(*parts)
            other = Bundle(*drawn_bundle(Chance(seed + 500), one.small))
            third = Bundle(*drawn_bundle(Chance(seed + 900), other.small))
            self.assertEqual((one >> other) >> third, one >> (other >> third))

    def test_single(self):
        for parts in some_bundles(20):
            bundle = Bundle(*parts)
            self.assertEqual(Bundle.single(bundle.net) >> bundle, bundle)
            self.assertEqual(bundle >> Bundle.single(bundle.small), bundle)

    def test_example(self):
        other = Bundle(SOME.small, [["f", "b"], ["c"]], [("b", "f")], [("c", "f")])
        found = SOME >> other
        self.assertEqual(told(found)[1:5], [[["c"], ["f", "a", "b", "d", "e"]],
                                            [("a", "b"), ("a", "d"), ("d", "e"), ("e", "f")], [("c", "f")],
                                            Net.path("c", "f")])
        found = SOME >> Bundle(SOME.small, [["b"], ["c"]], [], [("b", "c")])
        self.assertEqual(told(found)[1:5], [[["b", "a"], ["c"]], [("a", "b")], [("b", "c")], Net.path("b", "c")])

    def test_refusals(self):
        for value in NOT_BUNDLES:
            self.refused(InvalidBundle, {"value": value}, lambda: SOME >> value)
        for other in (SOME, Bundle.single(Net.path("b", "c", "f")), Bundle.single(NET)):
            self.refused(OtherNet, {"one": SOME.small, "other": other.net}, lambda: SOME >> other)


if __name__ == "__main__":
    unittest.main()
