import unittest

from bundled import GROUPS, INNER, NET, TIES
from drawn import Chance, drawn_net, drawn_signs
from outsigns.breaking import find_break, first_break, is_break
from outsigns.bundles import Bundle
from outsigns.carrying import brought_back, carried
from outsigns.closings import Closing, open_net
from outsigns.drawings import has_drawing
from outsigns.errors import InvalidBundle, InvalidSigns, OtherNet
from outsigns.knots import find_knot
from outsigns.nets import Net
from outsigns.rows import Rows
from outsigns.signs import Signs
from oracles import closings
from refusals import Refusals
from shapes import KNOTS, glued, subdivided
from test_knots import planted
from values import NOT_LINKS, NOT_NAMES, NOT_SIGNS, many_names, plain_walk, widest_net

SOME = Bundle(NET, GROUPS, INNER, TIES)
FOUR = Net.full("a", "b", "c", "d")
NOT_KNOTS = [None, True, 0, "", [], (), {}, (GROUPS, INNER, TIES), NET, Closing(), Signs(NET), Rows(NET), Bundle, SOME,
             Bundle.single(NET), Bundle.single(Net.full("a", "b", "c"))]


def is_plainly_missed(signs, closing, start, node):
    """Whether a node of the piece of a start is not met, by following the entries."""
    joined = open_net(signs.net, closing).piece_of(start)
    return node in joined and node not in plain_walk(signs, closing, start, 2 * signs.net.size + 1)


def plain_first_break(signs, bundle):
    """The first break by [74], by the walks of the carried signs at all closings."""
    small = carried(signs, bundle)
    for closing in closings(bundle.small):
        for start in bundle.small.nodes():
            for node in bundle.small.nodes():
                if is_plainly_missed(small, closing, start, node):
                    return (brought_back(bundle, closing), start, node)
    return None


def staying(net):
    """Signs that tell to stay everywhere."""
    signs = Signs(net)
    for node in net.nodes():
        for closed, arriving, _ in list(signs.entries(node)):
            signs[node, closed, arriving] = None
    return signs


def knotted(many):
    """Nets with knots of both kinds, at most eight neighbours at each node, and the knots planted there."""
    found = []
    for seed in range(many):
        chance = Chance(seed)
        net, parts = planted(chance, chance.pick(["four", "five"]))
        if max(len(net.neighbours(node)) for node in net.nodes()) <= 8:
            found.append((net, Bundle(net, *parts)))
    return found


class FirstBreakTest(Refusals):
    def test_against_walks(self):
        for seed, (net, bundle) in enumerate(knotted(60)):
            chance = Chance(seed)
            for signs in (Signs(net), drawn_signs(chance, net), staying(net)):
                found = first_break(signs, bundle)
                self.assertEqual(found, plain_first_break(signs, bundle))
                self.assertEqual(first_break(bundle=bundle, signs=signs), found)
                self.assertTrue(is_plainly_missed(signs, *found))
                self.assertIs(is_break(signs, found), True)
                self.assertIs(type(found), tuple)

    def test_example(self):
        closing, start, node = first_break(Signs(FOUR), Bundle.single(FOUR))
        self.assertEqual([str(closing), start, node], ["a-c", "b", "c"])
        self.assertEqual(first_break(staying(FOUR), Bundle.single(FOUR)), (Closing(), "a", "b"))
        net = FOUR | Net.path("d", "z", "y")
        bundle = Bundle(net, [["b"], ["c"], ["z", "d"], ["a"]], [("d", "z")], FOUR.links())
        found = first_break(staying(net), bundle)
        self.assertEqual([str(found[0]), found[1:]], ["y-z", ("a", "b")])

    def test_another_first_node_starts_elsewhere(self):
        net = FOUR | Net.path("d", "z")
        signs = drawn_signs(Chance(4), net)
        for group in (["d", "z"], ["z", "d"]):
            bundle = Bundle(net, [["b"], ["c"], group, ["a"]], [("d", "z")], FOUR.links())
            found = first_break(signs, bundle)
            self.assertEqual(found, plain_first_break(signs, bundle))

    def test_refusals(self):
        for value in NOT_SIGNS:
            self.refused(InvalidSigns, {"value": value}, lambda: first_break(value, None))
        for value in NOT_KNOTS:
            self.refused(InvalidBundle, {"value": value}, lambda: first_break(Signs(NET), value))
            self.refused(InvalidBundle, {"value": value}, lambda: first_break(Signs(Net(["a"])), value))
        other = Signs(FOUR | Net(["e"]))
        self.refused(OtherNet, {"one": other.net, "other": FOUR}, lambda: first_break(other, Bundle.single(FOUR)))


class FindBreakTest(Refusals):
    def test_a_break_if_there_is_no_drawing(self):
        seen = {True: 0, False: 0}
        for seed in range(150):
            chance = Chance(seed)
            net = drawn_net(chance, 16)
            if seed % 3 == 0:
                net = subdivided(chance, chance.pick(KNOTS), many_names(9)[4:4 + chance.below(5)]) | Net(["zz"])
            for signs in (drawn_signs(chance, net), staying(net)):
                found = find_break(signs)
                seen[found is None] += 1
                self.assertIs(found is None, has_drawing(net))
                if found is not None:
                    self.assertIs(type(found[0]), Closing)
                    self.assertTrue(is_plainly_missed(signs, *found))
                    self.assertIs(is_break(signs, found), True)
        self.assertGreater(min(seen.values()), 80)

    def test_large_nets(self):
        net = widest_net()
        for signs in (Signs(net), drawn_signs(Chance(2), net), staying(net)):
            found = find_break(signs)
            self.assertTrue(is_plainly_missed(signs, *found))
            self.assertEqual(find_break(signs=signs), found)
            self.assertIs(is_break(value=found, signs=signs), True)
        names = many_names(60)
        net = Net.ring(*names) + (names[0], names[30]) + (names[10], names[50])
        self.assertTrue(is_plainly_missed(staying(net), *find_break(staying(net))))
        self.assertIs(find_break(staying(net - (names[0], names[30]))), None)

    def test_refusals(self):
        for value in NOT_SIGNS:
            self.refused(InvalidSigns, {"value": value}, lambda: find_break(value))


class IsBreakTest(Refusals):
    def test_against_walks(self):
        for seed in range(60):
            chance = Chance(seed)
            net = drawn_net(chance, 8)
            signs = drawn_signs(chance, net)
            for _ in range(6):
                closing = Closing([link for link in net.links() if chance.below(3) == 0])
                for start in net.nodes():
                    for node in net.nodes():
                        self.assertIs(is_break(signs, (closing, start, node)),
                                      is_plainly_missed(signs, closing, start, node))

    def test_nearly_a_break(self):
        for seed, (net, bundle) in enumerate(knotted(25)):
            signs = drawn_signs(Chance(seed), net)
            closing, start, node = found = first_break(signs, bundle)
            for link in net.links():
                other = closing - Closing.of(link) if link in closing else closing | Closing.of(link)
                self.assertIs(is_break(signs, (other, start, node)), is_plainly_missed(signs, other, start, node))
            for name in net.nodes():
                self.assertIs(is_break(signs, (closing, name, node)), is_plainly_missed(signs, closing, name, node))
                self.assertIs(is_break(signs, (closing, start, name)), is_plainly_missed(signs, closing, start, name))
            wrong = [list(found), found[:2], (*found, node), (closing, start), (start, node, closing), (), found[::-1],
                     (closing.links(), start, node), (str(closing), start, node), (closing, start, [node]),
                     (closing, [start], node), (closing, (start,), node), (found,), {"closing": closing},
                     (closing | Closing.of(("q", "qq")), start, node), (closing, "qq", node), (closing, start, "qq"),
                     (open_net(net, closing), start, node), (None, start, node), (closing, None, None)]
            for value in [*wrong, *NOT_NAMES, *NOT_LINKS, closing, net, signs, bundle, Closing]:
                self.assertIs(is_break(signs, value), False, value)
            for value in NOT_NAMES:
                self.assertIs(is_break(signs, (closing, value, node)), False)
                self.assertIs(is_break(signs, (closing, start, value)), False)

    def test_nets_with_a_drawing_have_breaks_of_bad_signs(self):
        net = Net.ring("a", "b", "c", "d") + ("a", "c")
        self.assertIs(is_break(Signs(net), (Closing(), "a", "d")), "d" not in plain_walk(Signs(net), Closing(), "a", 12))
        self.assertIs(is_break(staying(net), (Closing(), "a", "d")), True)
        self.assertIs(is_break(staying(net), (Closing.of(("a", "d"), ("c", "d")), "a", "d")), False)
        self.assertIs(is_break(staying(glued(Chance(1), many_names(20), 4)), (Closing(), "aa", "aa")), False)

    def test_refusals(self):
        found = find_break(Signs(FOUR))
        for value in NOT_SIGNS:
            self.refused(InvalidSigns, {"value": value}, lambda: is_break(value, found))
        self.assertEqual(find_knot(FOUR), Bundle.single(FOUR))


if __name__ == "__main__":
    unittest.main()
