import itertools
import unittest

from drawn import Chance, drawn_net
from outsigns.errors import InvalidLink, InvalidLinks, InvalidName, InvalidNet, InvalidNodes
from outsigns.errors import LinkTaken, NameTaken, NobodyLeft, TooMany, UnknownLink, UnknownNode
from outsigns.nets import Net
from refusals import Refusals
from values import NOT_LINKS, NOT_LISTS, NOT_NAMES, NOT_NETS, many_names, widest_net

KITE = Net(["a", "b", "c", "d", "e"], [("a", "b"), ("b", "c"), ("c", "a"), ("c", "d")])


class NetTest(Refusals):
    def test_any_sequence_lists_and_tuples(self):
        nodes = ["a", "b", "c"]
        links = [("a", "b"), ("b", "c")]
        for some in itertools.permutations(nodes):
            for kind in (list, tuple):
                for turned in itertools.product((1, -1), repeat=2):
                    for pairs in itertools.permutations(link[::turn] for link, turn in zip(links, turned)):
                        net = Net(kind(some), kind(pairs))
                        self.assertEqual(net.nodes(), nodes)
                        self.assertEqual(net.links(), links)
                        self.assertEqual(net, Net(nodes=nodes, links=links))
                        self.assertEqual(repr(net), "Net(['a', 'b', 'c'], [('a', 'b'), ('b', 'c')])")

    def test_links_are_sorted_as_tuples(self):
        net = Net.full("aa", "a", "ab", "b", "aaa", "abcdefgh")
        self.assertEqual(net.links(), sorted(net.links()))
        self.assertEqual(net.links(), list(itertools.combinations(sorted(net.nodes()), 2)))

    def test_without_links(self):
        net = Net(["b", "a"])
        self.assertEqual([net.nodes(), net.links(), net.size, len(net)], [["a", "b"], [], 0, 2])
        self.assertEqual(repr(net), "Net(['a', 'b'], [])")
        self.assertEqual(net.pieces(), [["a"], ["b"]])

    def test_numbers_and_neighbours(self):
        self.assertEqual([len(KITE), KITE.size], [5, 4])
        found = {node: KITE.neighbours(node) for node in KITE.nodes()}
        self.assertEqual(found, {"a": ["b", "c"], "b": ["a", "c"], "c": ["a", "b", "d"], "d": ["c"], "e": []})

    def test_neighbours_are_sorted(self):
        net = Net(["m", "a", "z", "mm", "l"], [("m", "z"), ("a", "m"), ("mm", "m"), ("m", "l"), ("z", "a")])
        self.assertEqual(net.neighbours("m"), ["a", "l", "mm", "z"])

    def test_pieces(self):
        self.assertEqual(KITE.pieces(), [["a", "b", "c", "d"], ["e"]])
        self.assertEqual([KITE.piece_of(node) for node in "abcde"], [["a", "b", "c", "d"]] * 4 + [["e"]])
        net = Net(list("abcdef"), [("f", "a"), ("b", "e"), ("e", "d")])
        self.assertEqual(net.pieces(), [["a", "f"], ["b", "d", "e"], ["c"]])
        self.assertEqual(len(widest_net().pieces()), 1)

    def test_changing_what_was_passed_has_no_effect(self):
        nodes, links = ["b", "a"], [("b", "a")]
        net = Net(nodes, links)
        nodes.append("c")
        links.clear()
        self.assertEqual(net, Net(["a", "b"], [("a", "b")]))

    def test_changing_what_was_returned_has_no_effect(self):
        net = KITE - ("c", "d")
        before = repr(net)
        for found in (net.nodes(), net.links(), net.neighbours("a"), net.pieces(), net.pieces()[0], net.piece_of("a")):
            found.clear()
        self.assertEqual(repr(net), before)
        self.assertEqual(net.neighbours("a"), ["b", "c"])
        self.assertEqual(net.pieces(), [["a", "b", "c"], ["d"], ["e"]])
        self.assertEqual(net.piece_of("a"), ["a", "b", "c"])

    def test_contains(self):
        for node in "abcde":
            self.assertIs(node in KITE, True)
        for link in [("a", "b"), ("b", "a"), ("c", "d"), ("d", "c")]:
            self.assertIs(link in KITE, True)
        none = ["f", ("a", "d"), ("d", "a"), ("a", "e"), ("a", "f"), ("f", "a"), ("f", "g")]
        for value in [*NOT_NAMES, *NOT_LINKS, *none]:
            if value not in ["a", ("a", "b")]:
                self.assertIs(value in KITE, False, value)

    def test_equal(self):
        self.assertEqual(KITE, Net(KITE.nodes(), KITE.links()))
        self.assertNotEqual(KITE, Net(KITE.nodes(), KITE.links()[1:]))
        self.assertNotEqual(Net(["a"]), Net(["b"]))
        self.assertNotEqual(Net(["a", "b"]), Net.path("a", "b"))
        for value in NOT_NETS + [repr(KITE), (KITE.nodes(), KITE.links())]:
            self.assertIs(KITE == value, False)
            self.assertIs(KITE != value, True)

    def test_class_values(self):
        self.assertEqual([Net.MOST_NODES, Net.MOST_LINKS, KITE.MOST_NODES, KITE.MOST_LINKS], [60, 120, 60, 120])

    def test_wrong_nodes(self):
        for value in NOT_LISTS + [[], ()]:
            for links in ([], None, [1]):
                self.refused(InvalidNodes, {"position": None}, lambda: Net(value, links))
        for value in NOT_NAMES + ["a", "b"]:
            for links in ([], None, [("a", "x")]):
                self.refused(InvalidNodes, {"position": 2}, lambda: Net(["a", "b", value, 1], links))
        self.refused(InvalidNodes, {"position": 0}, lambda: Net([True]))
        self.refused(InvalidNodes, {"position": 60}, lambda: Net(many_names(60) + [1]))
        self.refused(InvalidNodes, {"position": 61}, lambda: Net(many_names(61) + ["aa"]))

    def test_wrong_links(self):
        for value in NOT_LISTS:
            self.refused(InvalidLinks, {"position": None}, lambda: Net(["a", "b"], value))
        others = [("a", "d"), ("d", "a"), ("x", "y"), ("a", "b"), ("b", "a")]
        for value in NOT_LINKS + others:
            if value == ("a", "c"):
                continue
            self.refused(InvalidLinks, {"position": 1}, lambda: Net(["a", "b", "c"], [("b", "a"), value, 1]))
        self.refused(InvalidLinks, {"position": None}, lambda: Net(many_names(61), None))
        self.refused(InvalidLinks, {"position": 0}, lambda: Net(many_names(61), [("aa", "zz")]))

    def test_too_many(self):
        names = many_names(61)
        self.assertEqual(len(Net(names[:60])), 60)
        self.refused(TooMany, {"what": "nodes", "limit": 60}, lambda: Net(names))
        links = Net.full(*names[:16]).links() + [("aa", "aq")]
        self.assertEqual(Net(names[:17], links[:120]).size, 120)
        self.refused(TooMany, {"what": "links", "limit": 120}, lambda: Net(names[:17], links))
        self.refused(TooMany, {"what": "nodes", "limit": 60}, lambda: Net(names, links))


class MakingTest(Refusals):
    def test_of(self):
        self.assertEqual(Net.of(("b", "a"), ("b", "c")), Net(["a", "b", "c"], [("a", "b"), ("b", "c")]))
        self.refused(InvalidLinks, {"position": None}, Net.of)
        for value in NOT_LINKS + [("a", "b"), ("b", "a")]:
            self.refused(InvalidLinks, {"position": 1}, lambda: Net.of(("a", "b"), value, 1))
        self.refused(InvalidLinks, {"position": 0}, lambda: Net.of([("a", "b")]))

    def test_of_many(self):
        names = many_names(62)
        pairs = [(names[at], names[at + 1]) for at in range(0, 62, 2)]
        self.assertEqual(len(Net.of(*pairs[:30])), 60)
        self.refused(TooMany, {"what": "nodes", "limit": 60}, lambda: Net.of(*pairs))
        links = Net.full(*names[:16]).links() + [("aa", "aq")]
        self.assertEqual(Net.of(*links[:120]).size, 120)
        self.refused(TooMany, {"what": "links", "limit": 120}, lambda: Net.of(*links))
        self.refused(TooMany, {"what": "nodes", "limit": 60}, lambda: Net.of(*links, *pairs[9:]))
        self.refused(InvalidLinks, {"position": 31}, lambda: Net.of(*pairs, ("aa", "ab")))

    def test_path_ring_full(self):
        self.assertEqual(Net.path("c", "a", "b"), Net(["a", "b", "c"], [("a", "c"), ("a", "b")]))
        self.assertEqual(Net.path("a"), Net(["a"]))
        self.assertEqual(Net.full("a"), Net(["a"]))
        self.assertEqual(Net.ring("c", "a", "b", "d").links(), [("a", "b"), ("a", "c"), ("b", "d"), ("c", "d")])
        self.assertEqual(Net.ring("c", "a", "b"), Net.full("a", "b", "c"))
        self.assertEqual(Net.full("a", "b", "c", "d").size, 6)
        self.assertEqual(Net.full("b", "a"), Net.path("a", "b"))

    def test_wrong_nodes(self):
        for made in (Net.path, Net.ring, Net.full):
            self.refused(InvalidNodes, {"position": None}, made)
            for value in NOT_NAMES + ["a"]:
                self.refused(InvalidNodes, {"position": 1}, lambda: made("a", value))
                self.refused(InvalidNodes, {"position": 3}, lambda: made("a", "b", "c", value, value))
            self.refused(InvalidNodes, {"position": 0}, lambda: made(["a", "b", "c"]))
            self.refused(InvalidNodes, {"position": 61}, lambda: made(*many_names(61), "aa"))
            self.refused(TooMany, {"what": "nodes", "limit": 60}, lambda: made(*many_names(61)))
        for nodes in (["a"], ["a", "b"]):
            self.refused(InvalidNodes, {"position": None}, lambda: Net.ring(*nodes))

    def test_limits(self):
        names = many_names(60)
        self.assertEqual([Net.path(*names).size, Net.ring(*names).size, Net.full(*names[:16]).size], [59, 60, 120])
        self.refused(TooMany, {"what": "links", "limit": 120}, lambda: Net.full(*names[:17]))
        self.refused(TooMany, {"what": "links", "limit": 120}, lambda: Net.full(*names))

    def test_off_an_object(self):
        self.assertEqual(KITE.path("a", "b"), Net.of(("a", "b")))
        self.assertEqual(KITE.of(("a", "b")), Net.full("a", "b"))


class ChangedTest(Refusals):
    def setUp(self):
        self.before = repr(KITE)

    def tearDown(self):
        self.assertEqual(repr(KITE), self.before)
        self.assertEqual(KITE.neighbours("c"), ["a", "b", "d"])

    def test_without(self):
        self.assertEqual(KITE.without("c"), Net(["a", "b", "d", "e"], [("a", "b")]))
        self.assertEqual(KITE.without("e", "a", "e"), Net(["b", "c", "d"], [("b", "c"), ("c", "d")]))
        self.assertEqual(KITE.without(), KITE)
        self.assertEqual(KITE.without("a", "b", "c", "d"), Net(["e"]))
        for value in NOT_NAMES + ["f", ("a", "b")]:
            self.refused(UnknownNode, {"value": value}, lambda: KITE.without("a", value, 1))
            self.refused(UnknownNode, {"value": value}, lambda: KITE.without("a", "b", "c", "d", "e", value))
        self.refused(NobodyLeft, {}, lambda: KITE.without("e", "d", "c", "b", "a", "a"))

    def test_unknown_nodes(self):
        for value in NOT_NAMES + ["f"]:
            for ask in (KITE.neighbours, KITE.piece_of):
                self.refused(UnknownNode, {"value": value}, lambda: ask(value))

    def test_drawn_together(self):
        found = Net(["a", "c", "d", "e"], [("a", "c"), ("c", "d")])
        self.assertEqual(KITE.drawn_together(("a", "b")), found)
        self.assertEqual(KITE.drawn_together(("b", "a")), found)
        self.assertEqual(KITE.drawn_together(("c", "d")), Net.ring("a", "b", "c") | Net(["e"]))
        self.assertEqual(Net.path("b", "c", "a").drawn_together(("a", "c")), Net.path("a", "b"))
        self.assertEqual(Net.path("a", "b").drawn_together(("a", "b")), Net(["a"]))
        self.assertEqual(Net.full("a", "b", "c", "d").drawn_together(("d", "b")), Net.full("a", "b", "c"))

    def test_drawn_together_and_minus_refuse(self):
        for value in NOT_LINKS + [("a", "d"), ("d", "a"), ("a", "x"), ("x", "a"), ("x", "y")]:
            self.refused(UnknownLink, {"value": value}, lambda: KITE.drawn_together(value))
            self.refused(UnknownLink, {"value": value}, lambda: KITE - value)

    def test_renamed(self):
        self.assertEqual(KITE.renamed(a="z"), Net.ring("z", "b", "c") | Net(["d", "e"]) | Net.path("c", "d"))
        self.assertEqual(KITE.renamed(a="d", d="a"), Net.ring("d", "b", "c") | Net(["e"]) | Net.path("c", "a"))
        turned = Net.ring("a", "b", "c") | Net(["e"]) | Net.path("a", "d")
        self.assertEqual(KITE.renamed(a="b", b="c", c="a"), turned)
        self.assertEqual(KITE.renamed(), KITE)
        self.assertEqual(KITE.renamed(a="a", e="e"), KITE)

    def test_renamed_refuses(self):
        self.refused(UnknownNode, {"value": "f"}, lambda: KITE.renamed(z="a", g=1, f=2, a=1))
        for value in NOT_NAMES:
            self.refused(InvalidName, {"value": value}, lambda: KITE.renamed(e="A", c=value, d=1, a="b"))
        self.refused(NameTaken, {"name": "b"}, lambda: KITE.renamed(a="b"))
        self.refused(NameTaken, {"name": "x"}, lambda: KITE.renamed(a="z", b="z", c="x", d="x"))
        self.refused(NameTaken, {"name": "c"}, lambda: KITE.renamed(a="d", e="c"))
        self.refused(UnknownNode, {"value": "x"}, lambda: KITE.renamed(a="b", x="y"))

    def test_plus(self):
        for link in [("a", "e"), ("e", "a")]:
            self.assertEqual((KITE + link).links(), [("a", "b"), ("a", "c"), ("a", "e"), ("b", "c"), ("c", "d")])
        for value in NOT_LINKS + [("a", "x"), ("x", "a"), ("x", "y"), ("a", "a")]:
            self.refused(InvalidLink, {"value": value}, lambda: KITE + value)
        for value in [("a", "b"), ("b", "a"), ("d", "c")]:
            self.refused(LinkTaken, {"value": value}, lambda: KITE + value)

    def test_plus_at_the_limit(self):
        net = widest_net()
        self.assertEqual(net.size, 120)
        self.refused(InvalidLink, {"value": ("aa", "x")}, lambda: net + ("aa", "x"))
        self.refused(LinkTaken, {"value": ("ab", "aa")}, lambda: net + ("ab", "aa"))
        self.refused(TooMany, {"what": "links", "limit": 120}, lambda: net + ("aa", "ad"))
        self.assertEqual((net - ("aa", "ab") + ("aa", "ad")).size, 120)

    def test_minus(self):
        for link in [("a", "b"), ("b", "a")]:
            self.assertEqual(KITE - link, Net(list("abcde"), [("a", "c"), ("b", "c"), ("c", "d")]))
        self.assertEqual(Net.path("a", "b") - ("a", "b"), Net(["a", "b"]))

    def test_or(self):
        other = Net(["x", "e", "a"], [("x", "a"), ("e", "a")])
        both = Net(list("abcdex"), KITE.links() + other.links())
        self.assertEqual(KITE | other, both)
        self.assertEqual(other | KITE, both)
        self.assertEqual(KITE | KITE, KITE)
        self.assertEqual(KITE | Net(["a"]), KITE)
        names = many_names(62)
        self.assertEqual(len(Net(names[:31]) | Net(names[29:60])), 60)
        self.refused(TooMany, {"what": "nodes", "limit": 60}, lambda: Net(names[:31]) | Net(names[30:61]))
        full = Net.full(*names[:16])
        self.assertEqual((full | Net(names[:60])).size, 120)
        self.refused(TooMany, {"what": "links", "limit": 120}, lambda: full | Net.path("aa", "zz"))
        self.refused(TooMany, {"what": "nodes", "limit": 60}, lambda: full | Net.path(*names[:61][1:], "zz"))

    def test_and(self):
        other = Net(["a", "b", "c", "x"], [("a", "b"), ("c", "x"), ("x", "a")])
        self.assertEqual(KITE & other, Net(["a", "b", "c"], [("a", "b")]))
        self.assertEqual(other & KITE, Net(["a", "b", "c"], [("a", "b")]))
        self.assertEqual(KITE & KITE, KITE)
        self.refused(NobodyLeft, {}, lambda: KITE & Net(["x"]))

    def test_is_part_of(self):
        self.assertIs(KITE.is_part_of(KITE), True)
        self.assertIs((KITE - ("a", "b")).is_part_of(KITE), True)
        self.assertIs(KITE.is_part_of(KITE - ("a", "b")), False)
        self.assertIs(KITE.without("e").is_part_of(other=KITE), True)
        self.assertIs(KITE.is_part_of(KITE.without("e")), False)
        self.assertIs(Net(["x"]).is_part_of(KITE), False)

    def test_other_values_in_the_place_of_a_net(self):
        for value in NOT_NETS:
            self.refused(InvalidNet, {"value": value}, lambda: KITE | value)
            self.refused(InvalidNet, {"value": value}, lambda: KITE & value)
            self.refused(InvalidNet, {"value": value}, lambda: KITE.is_part_of(value))

    def test_drawn_nets_against_nets_made_anew(self):
        for seed in range(150):
            chance = Chance(seed)
            net, other = drawn_net(chance, 25), drawn_net(chance, 25)
            nodes, links = net.nodes(), net.links()
            gone = chance.shuffled(nodes)[:chance.below(len(nodes))]
            pairs = [(net.without(*gone), Net([node for node in nodes if node not in gone],
                                              [link for link in links if not set(link) & set(gone)]))]
            pairs.append((net | other, Net(sorted({*nodes, *other.nodes()}), sorted({*links, *other.links()}))))
            if set(nodes) & set(other.nodes()):
                pairs.append((net & other, Net(sorted({*nodes} & {*other.nodes()}), sorted({*links} & {*other.links()}))))
            fresh = dict(zip(nodes, chance.shuffled(nodes)))
            pairs.append((net.renamed(**fresh), Net(nodes, [(fresh[one], fresh[two]) for one, two in links])))
            for one, two in chance.shuffled(links)[:4]:
                least, gone = min(one, two), max(one, two)
                held = [{least if node == gone else node for node in link} for link in links]
                left = {tuple(sorted(link)) for link in held if len(link) == 2}
                pairs.append((net.drawn_together((two, one)), Net([name for name in nodes if name != gone], sorted(left))))
                less = Net(nodes, [link for link in links if link != (one, two)])
                pairs += [(net - (two, one), less), (less + (two, one), net)]
            if links:
                turned = [link[::chance.pick([1, -1])] for link in chance.shuffled(links)]
                pairs.append((Net.of(*turned), Net(sorted({node for link in links for node in link}), links)))
            for found, expected in pairs:
                self.same(found, expected)

    def same(self, found, expected):
        """Look whether two nets tell the same, and whether what the first one tells is sorted."""
        self.assertEqual([found, repr(found), found.pieces()], [expected, repr(expected), expected.pieces()])
        self.assertEqual([found.nodes(), found.links()], [sorted(found.nodes()), sorted(found.links())])
        near = [found.neighbours(node) for node in found.nodes()]
        self.assertEqual(near, [expected.neighbours(node) for node in expected.nodes()])
        self.assertTrue(all(link in found and link[::-1] in found for link in expected.links()))

    def test_parameters_by_name(self):
        self.assertEqual(KITE.neighbours(node="d"), ["c"])
        self.assertEqual(KITE.piece_of(node="e"), ["e"])
        self.assertEqual(KITE.drawn_together(link=("d", "c")), KITE.drawn_together(("c", "d")))
        self.assertEqual(Net(links=[("a", "b")], nodes=["a", "b"]), Net.path("a", "b"))


if __name__ == "__main__":
    unittest.main()
