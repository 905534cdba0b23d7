import itertools
import unittest

from drawn import Chance, drawn_net
from oracles import closings, drawn_rows
from outsigns.blocks import blocks
from outsigns.closings import Closing, open_net
from outsigns.drawings import has_drawing
from outsigns.errors import InvalidNeighbours, InvalidNet, InvalidNumber, InvalidRows, TooMany, UnknownNode
from outsigns.joining import can_be_joined, joinable, least_cut, way_of_blocks, with_link
from outsigns.nets import Net
from outsigns.rows import Rows
from refusals import Refusals
from shapes import KNOTS, glued, ladder, star, subdivided
from values import NOT_COUNTS, NOT_NAMES, NOT_NETS, many_names, widest_net

KITE = Net.ring("a", "b", "c", "d") + ("a", "c")


def strangers(net):
    """The links between nodes that are no neighbours."""
    return [pair for pair in itertools.combinations(net.nodes(), 2) if pair not in net]


def some_nets():
    found = [Net(["a"]), Net(["a", "b"]), Net.path("a", "b", "c"), KITE, star(5), *KNOTS]
    for seed in range(60):
        chance = Chance(seed)
        found.append(glued(chance, many_names(4 + chance.below(9)), 5))
        found.append(drawn_net(chance, 14))
        found.append(subdivided(chance, chance.pick(KNOTS), many_names(chance.below(4))) | Net.path("x", "y"))
    return found


class JoinedTest(Refusals):
    def test_against_drawings(self):
        seen = {True: 0, False: 0}
        for net in some_nets():
            fits = []
            for one, other in strangers(net):
                fit = has_drawing(net + (one, other))
                seen[fit] += 1
                self.assertIs(can_be_joined(net, one, other), fit, (net, one, other))
                self.assertIs(can_be_joined(other=one, one=other, net=net), fit)
                fits += [(one, other)] if fit else []
            self.assertEqual(joinable(net), fits)
            self.assertEqual(joinable(net=net), fits)
        self.assertGreater(min(seen.values()), 500)

    def test_large_nets(self):
        names = many_names(60)
        filled = Net.path(*names[1:]) | Net.of(*[(names[0], name) for name in names[1:]])
        for net in (widest_net(), Net.full(*names[:16]), Net.full(*names[:15]) | Net.path(*names[:16], "zz")
                    | Net.path("zz", names[3])):
            self.assertEqual([joinable(net), [can_be_joined(net, *pair) for pair in strangers(net)[:5]]],
                             [[], [False] * len(strangers(net)[:5])])
        self.assertEqual([filled.size, joinable(filled)], [117, []])
        self.assertFalse(can_be_joined(filled, names[1], names[3]))
        self.assertEqual(joinable(Net(names)), list(itertools.combinations(names, 2)))
        for net in (ladder(), star(59), Net.path(*names), glued(Chance(3), names, 9)):
            found = joinable(net)
            for pair in strangers(net)[::23]:
                self.assertIs(pair in found, has_drawing(net + pair))
                self.assertIs(can_be_joined(net, *pair), has_drawing(net + pair))

    def test_more_links_than_a_net_may_have(self):
        net = widest_net()
        self.assertIs(can_be_joined(net, *strangers(net)[0]), False)
        self.assertEqual(net.size, 120)

    def test_refusals(self):
        for value in NOT_NETS:
            self.refused(InvalidNet, {"value": value}, lambda: can_be_joined(value, None, None))
            self.refused(InvalidNet, {"value": value}, lambda: joinable(value))
        for value in NOT_NAMES + ["e", "aa"]:
            if value not in ("a", "d"):
                self.refused(UnknownNode, {"value": value}, lambda: can_be_joined(KITE, value, None))
                self.refused(UnknownNode, {"value": value}, lambda: can_be_joined(KITE, "a", value))
        for one, other in (("a", "a"), ("a", "b"), ("b", "a"), ("c", "a")):
            self.refused(InvalidNeighbours, {"value": other}, lambda: can_be_joined(KITE, one, other))


class LeastCutTest(Refusals):
    def plain_cut(self, net):
        for closing in closings(net):
            if has_drawing(open_net(net, closing)):
                return closing
        return None

    def test_against_plain_trying(self):
        for seed in range(70):
            chance = Chance(seed)
            net = drawn_net(chance, 12)
            if seed % 2:
                pairs = chance.shuffled(itertools.combinations("abcdefg"[:5 + chance.below(3)], 2))
                net = Net(list("abcdefg"), pairs[:chance.below(13)])
            found = least_cut(net)
            self.assertIs(type(found), Closing)
            self.assertEqual(found, self.plain_cut(net))
            self.assertEqual(least_cut(net=net), found)

    def test_examples(self):
        self.assertEqual([str(least_cut(net)) for net in KNOTS],
                         ["a-b", "a-c", "a-c", "a-b a-c b-d", "a-b", "a-d b-e"])
        two = Net.full("a", "b", "c", "d") | Net.full("e", "f", "g", "h")
        self.assertEqual([two.size, str(least_cut(two))], [12, "a-b e-f"])
        grapes = Net.full("d", "e", "f", "g") | Net.of(*[(one, other) for one in "ab" for other in "cdh"])
        self.assertEqual([grapes.size, str(least_cut(grapes))], [12, "a-c d-e"])
        wide = Net.of(*[(one, other) for one in "abc" for other in "defg"])
        self.assertEqual(least_cut(wide), self.plain_cut(wide))
        self.assertEqual([str(least_cut(net)) for net in (Net(["a"]), KITE, star(12))], ["-"] * 3)

    def test_refusals(self):
        for value in NOT_NETS:
            self.refused(InvalidNet, {"value": value}, lambda: least_cut(value))
        for net in (star(13), widest_net(), Net.full(*"abcde") | Net.path("e", "f", "g", "h")):
            self.refused(TooMany, {"what": "links", "limit": 12}, lambda: least_cut(net))


def plain_way(net, one, other):
    """The way of blocks by all sequences of blocks that meet at nodes."""
    if one == other:
        return []
    found, every = [], blocks(net)

    def go(here, way):
        for block in every:
            if here in block and block not in [part[2] for part in way]:
                if other in block and here != other:
                    found.append([*way, (here, other, block)])
                for node in block:
                    if node not in (here, other) and node not in [part[0] for part in way]:
                        go(node, [*way, (here, node, block)])

    go(one, [])
    return min(found, key=len) if found else None


class WayTest(Refusals):
    def test_against_plain_trying(self):
        for seed in range(40):
            chance = Chance(seed)
            net = glued(chance, many_names(8), 4) if seed % 2 else drawn_net(chance, 10)
            for one, other in itertools.product(net.nodes(), repeat=2):
                found = way_of_blocks(net, one, other)
                self.assertEqual(found, plain_way(net, one, other))
                self.assertEqual(way_of_blocks(other=other, net=net, one=one), found)
                back = way_of_blocks(net, other, one)
                if found is None:
                    self.assertIs(back, None)
                    self.assertNotIn(other, net.piece_of(one))
                else:
                    self.assertIs(type(found), list)
                    self.assertEqual([(leaves, enters, block) for enters, leaves, block in back[::-1]], found)

    def test_example(self):
        net = KITE | Net.path("c", "e", "f") | Net.ring("f", "g", "h") | Net(["x"])
        self.assertEqual(way_of_blocks(net, "b", "g"), [
            ("b", "c", ["a", "b", "c", "d"]), ("c", "e", ["c", "e"]), ("e", "f", ["e", "f"]), ("f", "g", ["f", "g", "h"])])
        self.assertEqual([way_of_blocks(net, "b", "b"), way_of_blocks(net, "b", "x"), way_of_blocks(net, "x", "x")],
                         [[], None, []])
        way = way_of_blocks(net, "a", "b")
        way[0][2].clear()
        self.assertEqual(way_of_blocks(net, "a", "b"), [("a", "b", ["a", "b", "c", "d"])])

    def test_a_long_way(self):
        names = many_names(60)
        self.assertEqual(way_of_blocks(Net.path(*names), names[59], names[0]),
                         [(names[at], names[at - 1], names[at - 1:at + 1]) for at in range(59, 0, -1)])
        self.assertEqual(way_of_blocks(widest_net(), names[7], names[1]), [(names[7], names[1], names)])

    def test_refusals(self):
        for value in NOT_NETS:
            self.refused(InvalidNet, {"value": value}, lambda: way_of_blocks(value, None, None))
        for value in NOT_NAMES + ["e"]:
            if value != "a":
                self.refused(UnknownNode, {"value": value}, lambda: way_of_blocks(KITE, value, None))
                self.refused(UnknownNode, {"value": value}, lambda: way_of_blocks(KITE, "a", value))


class WithLinkTest(Refusals):
    def test_all_positions(self):
        for seed in range(25):
            chance = Chance(seed)
            net = drawn_net(chance, 10)
            rows = drawn_rows(chance, net)
            for one, other in chance.shuffled(strangers(net))[:4]:
                for at_one in range(len(rows[one]) + 1):
                    for at_other in range(len(rows[other]) + 1):
                        found = with_link(rows, one, other, at_one, at_other)
                        expected = {node: list(row) for node, row in rows.as_dict().items()}
                        expected[one].insert(at_one, other)
                        expected[other].insert(at_other, one)
                        self.assertEqual(found, Rows(net + (one, other), expected))
                        self.assertEqual(list(found.as_dict()), net.nodes())
                        self.assertEqual(found - (other, one), rows)
                        self.assertEqual(with_link(at_other=at_other, at_one=at_one, other=other, one=one, rows=rows),
                                         found)

    def test_refusals(self):
        rows = Rows(KITE)
        for value in [None, 0, (), {}, KITE, rows.signs(), Rows]:
            self.refused(InvalidRows, {"value": value}, lambda: with_link(value, None, None, None, None))
        for value in NOT_NAMES + ["e"]:
            if value not in ("b", "a"):
                self.refused(UnknownNode, {"value": value}, lambda: with_link(rows, value, None, None, None))
                self.refused(UnknownNode, {"value": value}, lambda: with_link(rows, "b", value, None, None))
        for one, other in (("b", "b"), ("a", "b"), ("b", "a")):
            self.refused(InvalidNeighbours, {"value": other}, lambda: with_link(rows, one, other, None, None))
        for value in [*NOT_COUNTS, 3, 4, 10 ** 29]:
            self.refused(InvalidNumber, {"value": value}, lambda: with_link(rows, "b", "d", value, None))
            self.refused(InvalidNumber, {"value": value}, lambda: with_link(rows, "b", "d", 2, value))
        self.assertEqual(with_link(rows, "b", "d", 2, 0)["d"], ("b", "a", "c"))

    def test_too_many(self):
        rows = Rows(widest_net())
        one, other = strangers(rows.net)[0]
        self.refused(TooMany, {"what": "links", "limit": 120}, lambda: with_link(rows, one, other, 0, 4))
        self.refused(InvalidNumber, {"value": True}, lambda: with_link(rows, one, other, 0, True))
        less = rows - rows.net.links()[5]
        self.assertEqual(with_link(less, one, other, 0, 0).net.size, 120)


if __name__ == "__main__":
    unittest.main()
