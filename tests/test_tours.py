import unittest

from drawn import Chance, drawn_net, drawn_signs
from oracles import closings
from outsigns.closings import Closing, open_net
from outsigns.counting import drawings
from outsigns.drawings import drawing
from outsigns.errors import InvalidClosing, InvalidNet, InvalidSigns, NoDrawing, TooMany, UnknownLink, UnknownNode
from outsigns.faults import is_good
from outsigns.nets import Net
from outsigns.signs import Signs
from outsigns.tours import longest, steps_to, steps_to_all, tour_length
from refusals import Refusals
from shapes import KNOTS, glued, ladder, star
from values import NOT_CLOSINGS, NOT_NAMES, NOT_NETS, NOT_SIGNS, many_names, plain_walk, widest_net

KITE = Net.ring("a", "b", "c", "d") + ("a", "c")


def plain_steps(signs, closing, start):
    """A dict from the nodes that a walk meets to its steps, by plain following."""
    nodes = plain_walk(signs, closing, start, 2 * signs.net.size + 2)
    return {node: nodes.index(node) for node in nodes}


def plain_all(signs, closing, start):
    """The steps to all, or None, by plain following."""
    steps = plain_steps(signs, closing, start)
    piece = open_net(signs.net, closing).piece_of(start)
    return max(steps[node] for node in piece) if set(piece) <= set(steps) else None


def small_drawn(seed):
    """A net of at most ten links with a drawing."""
    chance = Chance(seed)
    net = glued(chance, many_names(3 + chance.below(5)), 4)
    for link in chance.shuffled(net.links())[10:]:
        net = net - link
    return net


class TourLengthTest(Refusals):
    def test_tours_of_drawings(self):
        for seed in range(60):
            net = glued(Chance(seed), many_names(3 + seed % 12), 5)
            for rows in drawings(net, 0, 2):
                for piece in net.pieces():
                    first = rows.tour(piece[0])
                    for node in piece:
                        tour = rows.tour(node)
                        self.assertEqual(tour_length(net, node), len(tour))
                        self.assertEqual(set(tour), set(piece))
                        self.assertIn("".join(f" {name} " for name in tour),
                                      "".join(f" {name} " for name in first + first))
                    self.assertEqual(tour_length(node=piece[0], net=net), len(first))

    def test_tours_behind_closed_links(self):
        for seed in range(20):
            chance = Chance(seed)
            net = glued(chance, many_names(9), 6)
            rows = drawing(net)
            for link in chance.shuffled(net.links()):
                net, rows = net - link, rows - link
                for node in net.nodes():
                    self.assertEqual(tour_length(net, node), len(rows.tour(node)))
                    self.assertEqual(set(rows.tour(node)), set(net.piece_of(node)))

    def test_examples(self):
        self.assertEqual([tour_length(KITE, node) for node in "abcd"], [4] * 4)
        net = KITE | Net.path("c", "e", "f") | Net(["x"])
        self.assertEqual([tour_length(net, node) for node in net.nodes()], [8] * 6 + [1])
        names = many_names(60)
        self.assertEqual([tour_length(Net.path(*names), names[7]), tour_length(Net.ring(*names), names[7]),
                          tour_length(star(59), "hub"), tour_length(ladder(), names[0])], [118, 60, 118, 60])

    def test_refusals(self):
        for value in NOT_NETS:
            self.refused(InvalidNet, {"value": value}, lambda: tour_length(value, None))
        for value in NOT_NAMES + ["e"]:
            if value != "a":
                self.refused(UnknownNode, {"value": value}, lambda: tour_length(KITE, value))
        for net in [*KNOTS, widest_net()]:
            node = net.nodes()[0]
            self.refused(NoDrawing, {}, lambda: tour_length(net, node))
            self.refused(UnknownNode, {"value": "zz"}, lambda: tour_length(net, "zz"))
        self.refused(NoDrawing, {}, lambda: tour_length(KNOTS[0] | Net(["x"]), "x"))


class StepsTest(Refusals):
    def test_against_walks(self):
        seen = {True: 0, False: 0}
        for seed in range(60):
            chance = Chance(seed)
            net = drawn_net(chance, 9)
            signs = drawn_signs(chance, net)
            for _ in range(6):
                closing = Closing([link for link in net.links() if chance.below(3) == 0])
                for start in net.nodes():
                    steps = plain_steps(signs, closing, start)
                    for goal in net.nodes():
                        self.assertEqual(steps_to(signs, closing, start, goal), steps.get(goal))
                    expected = plain_all(signs, closing, start)
                    self.assertEqual(steps_to_all(signs, closing, start), expected)
                    seen[expected is None] += 1
                    self.assertEqual(steps_to(signs, closing, start, start), 0)
        self.assertGreater(min(seen.values()), 200)

    def test_entries_that_tell_to_stay(self):
        net = Net.path("a", "b", "c")
        signs = Signs(net)
        self.assertEqual([steps_to_all(signs, Closing(), name) for name in "abc"], [2, 3, 2])
        signs["b", [], "a"] = None
        self.assertEqual([steps_to(signs, Closing(), "a", name) for name in "abc"], [0, 1, None])
        self.assertEqual([steps_to_all(signs, Closing(), name) for name in "abc"], [None, None, 2])
        signs["a", [], None] = None
        self.assertEqual([steps_to(signs, Closing(), "a", name) for name in "abc"], [0, None, None])
        self.assertEqual(steps_to_all(signs, Closing.of(("b", "a")), "a"), 0)

    def test_large_nets(self):
        net = ladder()
        signs = drawing(net).signs()
        names = net.nodes()
        self.assertEqual(steps_to_all(closing=Closing(), start=names[0], signs=signs), 59)
        self.assertEqual(steps_to(goal=names[1], closing=Closing(), start=names[0], signs=signs),
                         drawing(net).tour(names[0]).index(names[1]))
        self.assertIn(steps_to_all(Signs(widest_net()), Closing(), "aa"), [None, *range(59, 240)])

    def test_refusals(self):
        signs = Signs(KITE)
        for value in NOT_SIGNS:
            self.refused(InvalidSigns, {"value": value}, lambda: steps_to(value, None, None, None))
            self.refused(InvalidSigns, {"value": value}, lambda: steps_to_all(value, None, None))
        for value in NOT_CLOSINGS:
            self.refused(InvalidClosing, {"value": value}, lambda: steps_to(signs, value, None, None))
            self.refused(InvalidClosing, {"value": value}, lambda: steps_to_all(signs, value, None))
        wrong = Closing.of(("d", "b"), ("a", "b"))
        self.refused(UnknownLink, {"value": ("b", "d")}, lambda: steps_to(signs, wrong, None, None))
        self.refused(UnknownLink, {"value": ("b", "d")}, lambda: steps_to_all(signs, wrong, None))
        for value in NOT_NAMES + ["e"]:
            if value != "a":
                self.refused(UnknownNode, {"value": value}, lambda: steps_to(signs, Closing(), value, None))
                self.refused(UnknownNode, {"value": value}, lambda: steps_to(signs, Closing(), "a", value))
                self.refused(UnknownNode, {"value": value}, lambda: steps_to_all(signs, Closing(), value))


class LongestTest(Refusals):
    def check(self, signs):
        best = None
        for closing in closings(signs.net):
            for start in signs.net.nodes():
                steps = plain_all(signs, closing, start)
                if steps is None:
                    self.assertIs(longest(signs), None)
                    return False
                if best is None or steps > best[0]:
                    best = (steps, closing, start)
        found = longest(signs)
        self.assertEqual(found, best)
        self.assertIs(type(found), tuple)
        self.assertIs(type(found[1]), Closing)
        return True

    def test_drawings(self):
        for seed in range(25):
            net = small_drawn(seed)
            if net.size <= 8:
                for rows in drawings(net, seed % 5, 2):
                    self.assertTrue(self.check(rows.signs()))
                    most = max(len(piece) for piece in net.pieces())
                    self.assertLessEqual(longest(rows.signs())[0], max(2 * most - 3, 0))

    def test_ten_links(self):
        fan = Net.path("b", "c", "d", "e", "f", "g") | Net.of(*[("a", name) for name in "bcdeg"])
        self.assertEqual(fan.size, 10)
        self.assertTrue(self.check(drawing(fan).signs()))

    def test_other_good_signs(self):
        seen = 0
        for seed in range(80):
            chance = Chance(seed)
            signs = drawing(small_drawn(seed)).signs()
            net = signs.net
            for node in net.nodes():
                for closed, arriving, _ in list(signs.entries(node)):
                    left = [name for name in net.neighbours(node) if name not in closed]
                    if net.size <= 6 and len(left) < 2 and chance.below(2):
                        signs[node, closed, arriving] = chance.pick([None, *left])
            if net.size <= 6 and is_good(signs):
                seen += 1
                self.assertTrue(self.check(signs))
            elif net.size <= 6:
                self.assertFalse(self.check(signs))
        self.assertGreater(seen, 5)

    def test_bad_signs(self):
        for seed in range(40):
            chance = Chance(seed)
            self.check(drawn_signs(chance, drawn_net(chance, 5)))
        self.assertIs(longest(Signs(Net.full(*"abcde"))), None)

    def test_without_links(self):
        self.assertEqual(longest(Signs(Net(["b", "a"]))), (0, Closing(), "a"))
        self.assertEqual(longest(signs=Signs(Net.path("b", "a"))), (1, Closing(), "a"))

    def test_refusals(self):
        for value in NOT_SIGNS:
            self.refused(InvalidSigns, {"value": value}, lambda: longest(value))
        for net in (Net.path(*"abcdefghijkl"), widest_net()):
            self.refused(TooMany, {"what": "links", "limit": 10}, lambda: longest(Signs(net)))


if __name__ == "__main__":
    unittest.main()
