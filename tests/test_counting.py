import itertools
import math
import unittest

from drawn import Chance, drawn_net
from oracles import all_rows, is_plainly_drawn, plain_blocks
from outsigns.closings import Closing
from outsigns.counting import count_drawings, drawing_at, drawings, number_of
from outsigns.drawings import drawing, has_drawing
from outsigns.errors import InvalidCount, InvalidNet, InvalidNumber, InvalidRows, NoDrawing
from outsigns.nets import Net
from outsigns.rows import Rows
from outsigns.signs import Signs
from refusals import Refusals
from shapes import KNOTS, glued, ladder, star, subdivided
from values import NOT_COUNTS, NOT_NETS, many_names, widest_net

KITE = Net.ring("a", "b", "c", "d") + ("a", "c")
TRIANGLE = Net.ring("a", "b", "c") | Net.path("a", "e")
NOT_ROWS = [None, True, 0, "", [], (), {}, KITE, Signs(KITE), Closing(), Rows, Rows(KITE).as_dict()]


def small_nets():
    found = [Net(["a"]), Net(["a", "b"]), Net.path("b", "a"), KITE, TRIANGLE, star(4), KITE | Net.path("x", "y"), *KNOTS]
    found += [Net.ring("a", "b", "c") | Net.ring("c", "d", "e"), Net.path("a", "b") | KNOTS[0]]
    for seed in range(50):
        chance = Chance(seed)
        found.append(drawn_net(chance, 9))
        found.append(glued(chance, many_names(3 + chance.below(6)), 4))
        found.append(subdivided(chance, chance.pick(KNOTS[:2]), many_names(chance.below(2))))
    degrees = [[len(net.neighbours(node)) for node in net.nodes()] for net in found]
    return [net for net, many in zip(found, degrees) if math.prod(math.factorial(k) for k in many) <= 1500]


def plain_count(net):
    """The number of drawings by the formula of [51], for a net that has some."""
    parts = plain_blocks(net)
    found = math.prod(math.factorial(sum(node in block for block in parts)) for node in net.nodes())
    return found * 2 ** sum(len(block) > 2 for block in parts)


class AllDrawingsTest(Refusals):
    def test_against_all_rows(self):
        seen = {True: 0, False: 0}
        for net in small_nets():
            expected = [Rows(net, rows) for rows in all_rows(net) if is_plainly_drawn(net, rows)]
            many = count_drawings(net)
            self.assertEqual(many, len(expected), net)
            found = [drawing_at(net, number) for number in range(many)]
            self.assertEqual(sorted(map(repr, found)), sorted(map(repr, expected)))
            self.assertEqual([number_of(rows) for rows in found], list(range(many)))
            self.assertEqual(list(drawings(net, 0, many + 3)), found)
            self.assertEqual(drawing(net), found[0] if found else None)
            seen[many > 0] += 1
            if many:
                self.assertEqual(many, plain_count(net))
            for rows in itertools.islice(all_rows(net), 0, None, 7):
                if Rows(net, rows) not in expected:
                    self.refused(NoDrawing, {}, lambda: number_of(Rows(net, rows)))
        self.assertGreater(min(seen.values()), 15)

    def test_examples(self):
        self.assertEqual([count_drawings(TRIANGLE), drawing_at(TRIANGLE, 1)["a"], drawing_at(TRIANGLE, 2)["a"]],
                         [4, ("c", "b", "e"), ("e", "b", "c")])
        self.assertEqual([count_drawings(Net(["a", "b"])), count_drawings(Net.path("a", "b"))], [1, 1])
        self.assertEqual([count_drawings(Net.ring("a", "b", "c")), count_drawings(KITE)], [2, 2])
        self.assertEqual(count_drawings(star(4)), 24)
        self.assertEqual([drawing_at(star(3), at)["hub"] for at in range(6)],
                         list(itertools.permutations(["aa", "ab", "ac"])))

    def test_the_number_digit_by_digit(self):
        net = Net.ring("b", "c", "d") | Net.path("b", "a") | Net.path("c", "x", "y") | Net.path("c", "w")
        self.assertEqual(count_drawings(net), 2 * 6 * 2 * 2)
        choices = itertools.product(itertools.permutations([("a",), ("c", "d")]),
                                    itertools.permutations([("b", "d"), ("w",), ("x",)]),
                                    itertools.permutations([("c",), ("y",)]), (0, 1))
        for number, (at_b, at_c, at_x, direction) in enumerate(choices):
            turn = {("c", "d"): ("d", "c"), ("b", "d"): ("d", "b")} if direction else {}
            # Behind c comes d, then b; the cycle of the ring is b, c, d.
            turned = {("b", "d"): ("b", "d")} if direction else {("b", "d"): ("d", "b")}
            rows = drawing_at(net, number)
            self.assertEqual(rows["b"], sum((turn.get(part, part) for part in at_b), ()))
            self.assertEqual(rows["c"], sum((turned.get(part, part) for part in at_c), ()))
            self.assertEqual(rows["x"], sum(at_x, ()))
            self.assertEqual(rows["d"], ("c", "b") if direction else ("b", "c"))
            self.assertEqual(number_of(rows), number)


class LargeNetsTest(Refusals):
    def test_both_ways(self):
        for seed in range(60):
            chance = Chance(seed)
            net = glued(chance, many_names(20 + chance.below(21)), 1 + chance.below(8))
            many = count_drawings(net)
            self.assertEqual(many, count_drawings(Net(net.nodes()[::-1], net.links())))
            self.assertGreater(many, 0)
            numbers = {0, many - 1, many // 2, many // 3, many * chance.below(1000) // 1000}
            for number in sorted(numbers):
                rows = drawing_at(net, number)
                self.assertEqual([rows.net, rows.is_drawing, number_of(rows)], [net, True, number])
                again = Rows(net, rows.as_dict())
                self.assertEqual(number_of(again), number)
            self.refused(InvalidNumber, {"value": many}, lambda: drawing_at(net, many))

    def test_formula(self):
        for seed in range(30):
            net = glued(Chance(seed), many_names(9), 5)
            self.assertEqual(count_drawings(net), plain_count(net))

    def test_great_numbers(self):
        net = star(27)
        many = math.factorial(27)
        self.assertEqual([count_drawings(net), len(str(many))], [many, 29])
        names = many_names(27)
        self.assertEqual(drawing_at(net, many - 1)["hub"], tuple(names[::-1]))
        self.assertEqual(drawing_at(net, 1)["hub"], (*names[:25], names[26], names[25]))
        for number in (10 ** 27 + 3, 98765432109876543210987654):
            rows = drawing_at(net, number)
            self.assertEqual([number_of(rows), rows.is_drawing], [number, True])
        self.assertEqual(count_drawings(star(59)), math.factorial(59))
        self.assertEqual(number_of(~drawing(star(59))), math.factorial(59) - 1)
        self.assertEqual(count_drawings(ladder()), 2)
        self.assertEqual(number_of(~drawing(ladder())), 1)

    def test_knots(self):
        nets = [*KNOTS, widest_net(), Net.full(*many_names(16)), KNOTS[0] | Net.ring("x", "y", "z"),
                KNOTS[1] | Net.path("a", "x", "y"), subdivided(Chance(1), KNOTS[1], many_names(50))]
        for net in nets:
            self.assertEqual([count_drawings(net), list(drawings(net, 0, 5)), list(drawings(net, 3, 0))], [0, [], []])
            for value in (0, 1, -1, None):
                self.refused(InvalidNumber, {"value": value}, lambda: drawing_at(net, value))
            self.refused(NoDrawing, {}, lambda: number_of(Rows(net)))


class DrawingsTest(Refusals):
    def test_from_a_number_on(self):
        net = star(4)
        every = [drawing_at(net, number) for number in range(24)]
        for first, many in itertools.product((0, 1, 7, 22, 23, 24, 25, 10 ** 29), (0, 1, 2, 5, 24, 10 ** 29)):
            self.assertEqual(list(drawings(net, first, many)), every[first:first + many])
        self.assertEqual(list(drawings(net=net, first=2, many=3)), every[2:5])

    def test_others_are_not_made(self):
        net = star(59)
        many = count_drawings(net)
        for first in (0, 10 ** 29, many - 2):
            made = drawings(net, first, 10 ** 29)
            self.assertEqual([number_of(next(made)), number_of(next(made))], [first, first + 1])
        self.assertEqual(len(list(drawings(net, many - 2, 5))), 2)
        self.assertEqual(list(drawings(net, many, 5)), [])

    def test_errors_come_when_the_iteration_begins(self):
        for value in NOT_NETS:
            made = drawings(value, -1, -1)
            self.refused(InvalidNet, {"value": value}, lambda: next(made))
        for net in (KITE, KNOTS[0]):
            for value in NOT_COUNTS:
                made = drawings(net, value, None)
                self.refused(InvalidCount, {"value": value}, lambda: next(made))
                made = drawings(net, 0, value)
                self.refused(InvalidCount, {"value": value}, lambda: next(made))


class RefusalsTest(Refusals):
    def test_nets_and_numbers(self):
        for value in NOT_NETS:
            self.refused(InvalidNet, {"value": value}, lambda: count_drawings(value))
            self.refused(InvalidNet, {"value": value}, lambda: drawing_at(value, None))
        for value in NOT_COUNTS + [2, 3, 10 ** 29, -1, True, False, KITE, Closing(), "0"]:
            self.refused(InvalidNumber, {"value": value}, lambda: drawing_at(KITE, value))

    def test_rows(self):
        for value in NOT_ROWS:
            self.refused(InvalidRows, {"value": value}, lambda: number_of(value))
        self.refused(NoDrawing, {}, lambda: number_of(Rows(KITE)))
        self.refused(NoDrawing, {}, lambda: number_of(Rows(Net.ring("a", "b", "c"), {"a": ["c", "b"]})))

    def test_by_name(self):
        self.assertEqual([count_drawings(net=KITE), number_of(rows=drawing_at(net=KITE, number=1))], [2, 1])
        self.assertTrue(has_drawing(KITE))


if __name__ == "__main__":
    unittest.main()
