import itertools
import math
import unittest

from drawn import Chance
from outsigns.blocks import chords, cycle_of
from outsigns.closings import Closing
from outsigns.drawings import drawing, has_drawing
from outsigns.errors import InvalidCount, InvalidFilling, InvalidNet, InvalidNumber, NoDrawing, NotOneBlock
from outsigns.fillings import catalan, count_fillings, faces, filling_at, number_of_filling
from outsigns.nets import Net
from outsigns.rows import Rows
from outsigns.signs import Signs
from refusals import Refusals
from shapes import KNOTS, drawn_ring, ladder, star, subdivided
from values import NOT_COUNTS, NOT_LINKS, NOT_NETS, many_names

KITE = Net.ring("a", "b", "c", "d") + ("a", "c")
HEXAGON = Net.ring("a", "b", "c", "d", "e", "f")
ASKS = [faces, count_fillings, lambda net: filling_at(net, None), lambda net: number_of_filling(net, None)]


def some_nets(most, seeds):
    """Rings of at most so many nodes, with and without chords."""
    found = [Net.ring("a", "b", "c"), KITE, HEXAGON, HEXAGON + ("a", "d"), HEXAGON + ("b", "d") + ("b", "f")]
    for seed in range(seeds):
        chance = Chance(seed)
        many = 3 + chance.below(most - 2)
        found.append(drawn_ring(chance, many_names(many), chance.below(many)))
    return found


def plain_faces(net):
    """The faces, by the rounds of a drawing: all but the one of the outer corners."""
    rows, cycle = drawing(net), cycle_of(net, net.nodes())
    found = []
    for darts in rows.rounds():
        if (rows[cycle[0]][-1], cycle[0]) not in darts:
            found.append(sorted(cycle.index(node) for node, _ in darts))
    return [[cycle[at] for at in face] for face in sorted(found)]


def divisions(nodes):
    """All divisions of a list into triangles, lists of links, in the sequence of their numbers."""
    if len(nodes) == 2:
        return [[]]
    found = []
    for third in range(1, len(nodes) - 1):
        sides = [tuple(sorted(pair)) for pair, far in [((nodes[0], nodes[third]), third > 1),
                                                       ((nodes[third], nodes[-1]), third < len(nodes) - 2)] if far]
        for one in divisions(nodes[:third + 1]):
            found += [sides + one + other for other in divisions(nodes[third:])]
    return found


def plain_fillings(net):
    """All fillings in the sequence of their numbers."""
    return [sorted(sum(parts, [])) for parts in itertools.product(*[divisions(face) for face in plain_faces(net)])]


def fillings_by_trying(net):
    """All fillings as [53] says what they are, by trying all sets of links."""
    links = [pair for pair in itertools.combinations(net.nodes(), 2) if pair not in net]
    fit = []
    for many in range(len(links) + 1):
        for part in itertools.combinations(links, many):
            other = Net(net.nodes(), [*net.links(), *part])
            if has_drawing(other):
                fit.append(set(part))
    return sorted(sorted(part) for part in fit if not any(part < other for other in fit))


class CatalanTest(Refusals):
    def test_by_the_sum(self):
        expected = [1]
        for many in range(60):
            expected.append(sum(expected[at] * expected[many - at] for at in range(many + 1)))
        self.assertEqual([catalan(many) for many in range(61)], expected)
        self.assertEqual([catalan(many=4), type(catalan(60))], [14, int])

    def test_refusals(self):
        for value in NOT_COUNTS + [61, 62, 10 ** 29, KITE]:
            self.refused(InvalidCount, {"value": value}, lambda: catalan(value))


class FacesTest(Refusals):
    def test_by_rounds(self):
        for net in some_nets(60, 80):
            found = faces(net)
            self.assertEqual(found, plain_faces(net))
            cycle = cycle_of(net, net.nodes())
            places = [[cycle.index(node) for node in face] for face in found]
            self.assertEqual(places, sorted(sorted(face) for face in places))
            self.assertEqual(len(found), len(chords(net, net.nodes())) + 1)

    def test_examples(self):
        self.assertEqual(faces(KITE), [["a", "b", "c"], ["a", "c", "d"]])
        self.assertEqual(faces(net=Net.ring("d", "b", "a", "c")), [["a", "b", "d", "c"]])
        net = HEXAGON + ("b", "d") + ("b", "f")
        self.assertEqual(faces(net), [["a", "b", "f"], ["b", "c", "d"], ["b", "d", "e", "f"]])
        faces(net)[0].clear()
        faces(net).clear()
        self.assertEqual(faces(net)[0], ["a", "b", "f"])
        self.assertEqual(len(faces(ladder())), 29)


class FillingsTest(Refusals):
    def test_all_of_small_nets(self):
        for net in some_nets(9, 60):
            expected = plain_fillings(net)
            self.assertEqual(count_fillings(net), len(expected))
            for number, links in list(enumerate(expected))[::1 + len(expected) // 80]:
                self.assertEqual(filling_at(net, number), links)
                self.assertEqual(number_of_filling(net, links), number)
            self.refused(InvalidNumber, {"value": len(expected)}, lambda: filling_at(net, len(expected)))

    def test_by_trying_all_sets_of_links(self):
        for net in [Net.ring(*"abcde"), HEXAGON, HEXAGON + ("a", "d"), HEXAGON + ("c", "a"), KITE, Net.ring(*"abc"),
                    Net.ring("d", "b", "a", "e", "c"), drawn_ring(Chance(4), many_names(7), 2)]:
            found = [filling_at(net, number) for number in range(count_fillings(net))]
            self.assertEqual(sorted(found), fillings_by_trying(net))

    def test_large_nets(self):
        for seed, net in enumerate([*some_nets(60, 60), Net.ring(*many_names(60)), ladder()]):
            many, size = count_fillings(net), len(net)
            self.assertEqual(many, math.prod(catalan(len(face) - 2) for face in faces(net)))
            chance = Chance(seed)
            for number in sorted({0, many - 1, many // 2, many * chance.below(1000) // 1000}):
                links = filling_at(net, number)
                self.assertEqual([len(links), links], [2 * size - 3 - net.size, sorted(links)])
                whole = Net(net.nodes(), net.links() + links)
                self.assertEqual([has_drawing(whole), count_fillings(whole), filling_at(whole, 0)], [True, 1, []])
                turned = [link[::chance.pick([1, -1])] for link in chance.shuffled(links)]
                self.assertEqual([number_of_filling(net, turned), number_of_filling(net, tuple(turned))], [number] * 2)

    def test_great_numbers(self):
        net = Net.ring(*many_names(54))
        self.assertEqual(count_fillings(net), catalan(52))
        for number in (10 ** 28 + 7, 12345678901234567890123456789):
            self.assertEqual(number_of_filling(net, filling_at(net, number)), number)

    def test_examples(self):
        ring = Net.ring("a", "b", "c", "d")
        self.assertEqual([count_fillings(ring), filling_at(ring, 0), filling_at(ring, 1)],
                         [2, [("b", "d")], [("a", "c")]])
        self.assertEqual([filling_at(KITE, 0), number_of_filling(KITE, []), number_of_filling(KITE, ())], [[], 0, 0])
        self.assertEqual([count_fillings(net=KITE), filling_at(net=ring, number=1), number_of_filling(
            net=ring, links=[("d", "b")])], [1, [("a", "c")], 0])


class RefusalsTest(Refusals):
    def test_nets_that_are_not_one_block(self):
        for value in NOT_NETS:
            for ask in ASKS:
                self.refused(InvalidNet, {"value": value}, lambda: ask(value))
        nets = [(Net(["a"]), 0), (Net(["a", "b"]), 0), (Net.path("a", "b"), 1), (Net.path("a", "b", "c"), 2),
                (KITE | Net(["x"]), 1), (KITE | Net.path("x", "y"), 2), (KITE | Net.path("a", "x"), 2),
                (KITE | Net.ring("d", "e", "f"), 2), (star(7), 7), (KNOTS[0] | Net(["x"]), 1),
                (KNOTS[0] | Net.path("a", "x"), 2), (KNOTS[1] | KNOTS[0].renamed(a="x", b="y", c="z", d="w"), 2)]
        for net, many in nets:
            for ask in ASKS:
                self.refused(NotOneBlock, {"count": many}, lambda: ask(net))

    def test_nets_without_a_drawing(self):
        for net in [*KNOTS, subdivided(Chance(1), KNOTS[0], many_names(20))]:
            for ask in ASKS:
                self.refused(NoDrawing, {}, lambda: ask(net))

    def test_numbers(self):
        for net, many in ((KITE, 1), (HEXAGON, 14)):
            for value in NOT_COUNTS + [many, many + 1, 10 ** 29, KITE, "0"]:
                self.refused(InvalidNumber, {"value": value}, lambda: filling_at(net, value))

    def test_wrong_fillings(self):
        good = [("a", "c"), ("a", "d"), ("a", "e")]
        self.assertEqual(number_of_filling(HEXAGON, good), [sorted(x) for x in divisions(list("abcdef"))].index(good))
        wrong = [good[:2], good[1:], [], [*good, ("b", "d")], [*good, ("a", "c")], [*good[:2], ("d", "a")],
                 [("a", "c"), ("a", "c"), ("a", "e")], [("a", "c"), ("c", "a"), ("a", "e")],
                 [("a", "c"), ("b", "d"), ("a", "e")], [("a", "d"), ("b", "e"), ("c", "f")],
                 [("a", "b"), ("a", "d"), ("a", "e")], [("a", "c"), ("a", "d"), ("f", "a")],
                 [("a", "c"), ("a", "d"), ("x", "e")], [*good, ("a", "b")], [("a", "c"), ("c", "e"), ("b", "e")],
                 ["ac", "ad", "ae"], [["a", "c"], ["a", "d"], ["a", "e"]], {("a", "c"): 1}, set(good), "a-c a-d a-e",
                 None, True, 0, HEXAGON, Closing(good), Signs(HEXAGON), Rows(HEXAGON), ("a", "c")]
        for value in wrong:
            self.refused(InvalidFilling, {"value": value}, lambda: number_of_filling(HEXAGON, value))
        for value in NOT_LINKS:
            links = [("a", "c"), value, ("a", "e")]
            self.refused(InvalidFilling, {"value": links}, lambda: number_of_filling(HEXAGON, links))
        self.refused(InvalidFilling, {"value": [("b", "d")]}, lambda: number_of_filling(KITE, [("b", "d")]))
        self.refused(InvalidFilling, {"value": [("a", "c")]}, lambda: number_of_filling(KITE, [("a", "c")]))

    def test_of_all_sets_of_three_links(self):
        pairs = [pair for pair in itertools.combinations("abcdef", 2) if pair not in HEXAGON]
        good = [sorted(links) for links in divisions(list("abcdef"))]
        found = 0
        for part in itertools.combinations(pairs, 3):
            if list(part) in good:
                self.assertEqual(number_of_filling(HEXAGON, part), good.index(list(part)))
                found += 1
            else:
                self.refused(InvalidFilling, {"value": part}, lambda: number_of_filling(HEXAGON, part))
        self.assertEqual(found, 14)


if __name__ == "__main__":
    unittest.main()
