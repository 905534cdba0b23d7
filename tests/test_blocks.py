import unittest

from drawn import Chance, drawn_net
from oracles import plain_blocks, plain_chords, plain_cycles
from outsigns.blocks import blocks, chords, cut_nodes, cycle_of
from outsigns.closings import Closing
from outsigns.errors import InvalidNet, InvalidNodes
from outsigns.nets import Net
from outsigns.rows import Rows
from refusals import Refusals
from shapes import KNOTS, drawn_ring, glued, ladder, star, subdivided
from values import NOT_NETS, many_names, widest_net

KITE = Net.ring("a", "b", "c", "d") + ("a", "c")
TREE = KITE | Net.path("d", "e", "f") | Net.ring("f", "g", "h") | Net(["x", "y"]) | Net.path("v", "w")


def some_nets():
    found = [Net(["a"]), Net(["a", "b"]), Net.path("a", "b"), Net.path("c", "a", "b"), KITE, TREE, star(5), *KNOTS]
    for seed in range(60):
        chance = Chance(seed)
        found.append(drawn_net(chance, 12))
        found.append(glued(chance, many_names(3 + chance.below(6)), 4))
        found.append(glued(chance, [*many_names(3), "e"], 4) | chance.pick(KNOTS))
        found.append(subdivided(chance, chance.pick(KNOTS), many_names(chance.below(3))))
    return [net for net in found if len(net) <= 9]


class BlocksTest(Refusals):
    def test_by_all_sets_of_nodes(self):
        for net in some_nets():
            expected = plain_blocks(net)
            self.assertEqual(blocks(net), expected, net)
            lie = [node for block in expected for node in block]
            self.assertEqual(cut_nodes(net), sorted({node for node in lie if lie.count(node) > 1}))

    def test_examples(self):
        self.assertEqual(blocks(TREE), [["a", "b", "c", "d"], ["d", "e"], ["e", "f"], ["f", "g", "h"], ["v", "w"]])
        self.assertEqual(cut_nodes(TREE), ["d", "e", "f"])
        self.assertEqual([blocks(Net(["a", "b"])), cut_nodes(Net(["a", "b"]))], [[], []])
        self.assertEqual(blocks(Net.of(("aa", "b"), ("a", "b"), ("ab", "b"))), [["a", "b"], ["aa", "b"], ["ab", "b"]])
        self.assertEqual(cut_nodes(net=KITE), [])

    def test_lists_of_other_lengths_are_sorted(self):
        net = Net.path("a", "b") | Net.ring("b", "c", "d") | Net.ring("a", "aa", "ab") | Net.ring("b", "ba", "bb", "c")
        self.assertEqual(blocks(net), sorted(blocks(net)))
        for seed in range(40):
            net = glued(Chance(seed), many_names(40), 6)
            found = blocks(net=net)
            self.assertEqual(found, sorted(found))
            self.assertTrue(all(block == sorted(block) for block in found))
            inside = [sum(link[0] in block and link[1] in block for block in found) for link in net.links()]
            self.assertEqual(inside, [1] * net.size)

    def test_large_nets(self):
        names = many_names(60)
        self.assertEqual(blocks(Net.ring(*names)), [names])
        self.assertEqual(len(blocks(Net.path(*names))), 59)
        self.assertEqual(cut_nodes(Net.path(*names)), names[1:-1])
        self.assertEqual([blocks(widest_net()), blocks(ladder())], [[names], [names]])
        self.assertEqual([len(blocks(star(59))), cut_nodes(star(59))], [59, ["hub"]])
        self.assertEqual(blocks(Net.full(*names[:16])), [names[:16]])

    def test_results_are_new(self):
        blocks(TREE)[0].clear()
        blocks(TREE).clear()
        cut_nodes(TREE).clear()
        cycle_of(TREE, ["d", "e"]).clear()
        cycle_of(TREE, ["f", "g", "h"]).clear()
        chords(TREE, ["a", "b", "c", "d"]).clear()
        self.assertEqual(blocks(TREE)[0], ["a", "b", "c", "d"])
        self.assertEqual(cut_nodes(TREE), ["d", "e", "f"])
        self.assertEqual([cycle_of(TREE, ["d", "e"]), cycle_of(TREE, ["f", "g", "h"])], [["d", "e"], ["f", "g", "h"]])
        self.assertEqual(chords(TREE, ["a", "b", "c", "d"]), [("a", "c")])

    def test_a_block_that_was_passed_stays(self):
        block = ["d", "e"]
        found = cycle_of(TREE, block)
        found.clear()
        self.assertEqual(block, ["d", "e"])

    def test_any_sequence_of_nodes_and_links(self):
        for seed in range(20):
            chance = Chance(seed)
            net = glued(chance, many_names(14), 6) | chance.pick([KITE, *KNOTS])
            turned = [link[::chance.pick([1, -1])] for link in chance.shuffled(net.links())]
            other = Net(chance.shuffled(net.nodes()), turned)
            self.assertEqual([blocks(other), cut_nodes(other)], [blocks(net), cut_nodes(net)])
            for block in blocks(net):
                self.assertEqual(cycle_of(other, block), cycle_of(net, block))
                self.assertEqual(chords(other, block), chords(net, block))

    def test_refusals(self):
        for value in NOT_NETS + [Rows(KITE), blocks(KITE)]:
            for ask in (blocks, cut_nodes):
                self.refused(InvalidNet, {"value": value}, lambda: ask(value))
            for ask in (cycle_of, chords):
                self.refused(InvalidNet, {"value": value}, lambda: ask(value, 1))


class CyclesTest(Refusals):
    def test_by_all_cycles(self):
        seen = {True: 0, False: 0}
        for net in some_nets():
            for block in plain_blocks(net):
                expected = plain_cycles(net, block)
                self.assertLessEqual(len(expected), 1)
                cycle = cycle_of(net, block)
                self.assertEqual(cycle, expected[0] if expected else None, net)
                links = plain_chords(net, cycle) if cycle and len(block) > 2 else []
                self.assertEqual(chords(net, block), links)
                self.assertEqual([cycle_of(net, tuple(block)), chords(net, tuple(block))], [cycle, links])
                seen[cycle is None] += len(block) > 3
        self.assertGreater(min(seen.values()), 30)

    def test_the_sequence(self):
        self.assertEqual(cycle_of(Net.ring("d", "b", "a", "c"), ["a", "b", "c", "d"]), ["a", "b", "d", "c"])
        self.assertEqual(cycle_of(net=Net.ring("c", "a", "b"), block=["a", "b", "c"]), ["a", "b", "c"])
        self.assertEqual(cycle_of(Net.path("b", "a"), ("a", "b")), ["a", "b"])
        self.assertEqual([type(cycle_of(Net.path("b", "a"), ("a", "b"))), type(chords(KITE, tuple("abcd")))], [list] * 2)
        self.assertEqual(chords(net=KITE, block=["a", "b", "c", "d"]), [("a", "c")])

    def test_rings_with_chords(self):
        for seed in range(80):
            chance = Chance(seed)
            many = 3 + chance.below(57)
            names = many_names(many)
            net = drawn_ring(chance, names, chance.below(many))
            cycle, links = cycle_of(net, names), chords(net, names)
            self.assertEqual(sorted(cycle), names)
            self.assertTrue(all((node, cycle[at - 1]) in net for at, node in enumerate(cycle)))
            self.assertEqual(links, plain_chords(net, cycle))
            self.assertEqual([cycle[0], cycle[1] < cycle[-1], len(links)], [names[0], True, net.size - many])
            if len(links) == many - 3:
                continue
            far = [(one, other) for at, one in enumerate(cycle) for by, other in enumerate(cycle[:at])
                   if any((cycle.index(two[0]) - by) * (cycle.index(two[0]) - at)
                          * (cycle.index(two[1]) - by) * (cycle.index(two[1]) - at) < 0 for two in links)]
            if far:
                other = net + chance.pick(far)
                self.assertEqual([cycle_of(other, names), chords(other, names)], [None, []])

    def test_knots(self):
        for net in KNOTS:
            self.assertEqual([cycle_of(net, net.nodes()), chords(net, net.nodes())], [None, []])
            for seed in range(10):
                chance = Chance(seed)
                large = subdivided(chance, net, many_names(2 + chance.below(48)))
                self.assertEqual([cycle_of(large, block) for block in blocks(large)], [None])
        self.assertEqual(cycle_of(widest_net(), many_names(60)), None)
        self.assertEqual(cycle_of(Net.full(*many_names(16)), many_names(16)), None)

    def test_what_is_no_block(self):
        wrong = [None, True, 0, 1, "", "abcd", "de", [], (), ["a"], ["d"], ["e", "d"], ("e", "d"), ["d", "e", "e"],
                 ["a", "b", "c"], ["a", "c", "b", "d"], ["a", "b", "c", "d", "e"], ["x"], ["x", "y"], ["d", "f"],
                 ["d", 1], [None], [["d", "e"]], [["d"], ["e"]], {"d": "e"}, {"d", "e"}, ("d", "e", None), b"de",
                 [True], TREE, Closing(), Rows(TREE), [TREE], range(2), ("v",), ["v", "w", "x"]]
        for value in wrong:
            for ask in (cycle_of, chords):
                self.refused(InvalidNodes, {"position": None}, lambda: ask(TREE, value))
        for value in ([], ["a"], ["a", "b"]):
            self.refused(InvalidNodes, {"position": None}, lambda: cycle_of(Net(["a", "b"]), value))


if __name__ == "__main__":
    unittest.main()
