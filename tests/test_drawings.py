import itertools
import math
import unittest

from drawn import Chance, drawn_net
from oracles import all_rows, closings, drawn_rows, is_plainly_drawn, is_plainly_good, opened, plain_blocks
from oracles import plain_cycles, plain_faults_at, plain_least_break
from outsigns.closings import Closing, open_net
from outsigns.drawings import drawing, has_drawing, is_good_rows, least_break, ring_pieces, rows_fault
from outsigns.errors import InvalidNet, InvalidRows
from outsigns.faults import faults, is_good
from outsigns.nets import Net
from outsigns.rows import Rows
from outsigns.signs import Signs
from refusals import Refusals
from shapes import KNOTS, glued, ladder, star, subdivided
from values import NOT_NETS, many_names, widest_net

KITE = Net.ring("a", "b", "c", "d") + ("a", "c")
NOT_ROWS = [None, True, 0, "", [], (), {}, {"a": ("b",), "b": ("a",)}, KITE, Signs(KITE), Closing(), Rows,
            Rows(KITE).as_dict()]


def first_drawing(net):
    """The rows of the drawing with the number 0 by [51], in the plainest way; None if there is none."""
    cycles = []
    for block in plain_blocks(net):
        found = plain_cycles(net, block)
        if not found:
            return None
        cycles.append(found[0])
    rows = {}
    for node in net.nodes():
        row = []
        for cycle in cycles:
            if node in cycle:
                at = cycle.index(node)
                turned = cycle[at + 1:] + cycle[:at]
                row += [name for name in turned if (node, name) in net]
        rows[node] = tuple(row)
    return rows


def small_nets():
    found = [Net(["a"]), Net(["a", "b"]), Net.path("b", "a"), KITE, star(6), *KNOTS]
    for seed in range(60):
        chance = Chance(seed)
        found.append(drawn_net(chance, 12))
        found.append(glued(chance, many_names(3 + chance.below(6)), 4))
        found.append(subdivided(chance, chance.pick(KNOTS), many_names(chance.below(3))))
    return [net for net in found if len(net) <= 8]


class DrawingTest(Refusals):
    def test_the_drawing_with_the_number_0(self):
        seen = {True: 0, False: 0}
        for net in small_nets():
            expected = first_drawing(net)
            found = drawing(net)
            self.assertIs(has_drawing(net), expected is not None)
            seen[expected is None] += 1
            if expected is None:
                self.assertIs(found, None)
                continue
            self.assertIsInstance(found, Rows)
            self.assertEqual([found.net, found.as_dict(), found.is_drawing], [net, expected, True])
        self.assertGreater(min(seen.values()), 30)

    def test_a_net_has_one_if_any_rows_are_one(self):
        for net in small_nets():
            if math.prod(math.factorial(len(net.neighbours(node))) for node in net.nodes()) <= 1500:
                found = any(is_plainly_drawn(net, rows) for rows in all_rows(net))
                self.assertIs(has_drawing(net), found, net)

    def test_a_net_has_one_if_it_has_good_signs(self):
        for net in small_nets():
            if net.size <= 8 and has_drawing(net):
                self.assertTrue(is_plainly_good(net, drawing(net).as_dict()))
        for net in KNOTS[:3]:
            self.assertFalse(any(is_good(Signs(net, rows)) for rows in itertools.islice(all_rows(net), 0, None, 5)))

    def test_large_nets(self):
        names = many_names(60)
        for net in (ladder(), Net(names), Net.path(*names), Net.ring(*names), star(59)):
            found = drawing(net)
            self.assertEqual([has_drawing(net), found.net, found.is_drawing], [True, net, True])
        for net in (widest_net(), Net.full(*names[:16]), Net.full(*names[:5]) | Net.path(*names),
                    subdivided(Chance(1), KNOTS[1], names[:55])):
            self.assertEqual([has_drawing(net), drawing(net)], [False, None])
        fan = Net.path(*names[:59]) | Net.of(*[("zz", name) for name in names[:59]])
        self.assertEqual([fan.size, has_drawing(fan), drawing(fan).is_drawing], [117, True, True])

    def test_a_knot_in_one_of_many_pieces(self):
        for net in KNOTS:
            both = net | Net.ring("w", "x", "y", "z") | Net.path("a", "s", "t")
            self.assertEqual([has_drawing(both), drawing(both)], [False, None])
            self.assertTrue(has_drawing(both.without("a", "b")))

    def test_of_a_passed_sequence(self):
        for seed in range(20):
            chance = Chance(seed)
            net = glued(chance, many_names(30), 7)
            links = [link[::chance.pick([1, -1])] for link in chance.shuffled(net.links())]
            self.assertEqual(drawing(Net(chance.shuffled(net.nodes()), links)), drawing(net))
            self.assertTrue(drawing(net=net).is_drawing and has_drawing(net=net))

    def test_refusals(self):
        for value in NOT_NETS + [Rows(KITE)]:
            for ask in (has_drawing, drawing, ring_pieces):
                self.refused(InvalidNet, {"value": value}, lambda: ask(value))


class GoodRowsTest(Refusals):
    def check(self, rows):
        net, given = rows.net, rows.as_dict()
        good = is_plainly_good(net, given)
        self.assertIs(is_good_rows(rows), good)
        if good:
            self.assertEqual([least_break(rows), rows_fault(rows)], [None, None])
            return good
        closing = plain_least_break(net, given)
        self.assertEqual(least_break(rows), closing)
        start, gone = plain_faults_at(net, given, closing)[0]
        self.assertEqual(rows_fault(rows), (closing, start, gone))
        return good

    def test_against_all_closings(self):
        seen = []
        for seed in range(100):
            chance = Chance(seed)
            net = drawn_net(chance, 6)
            seen.append(self.check(drawn_rows(chance, net)))
            net = glued(chance, many_names(3 + chance.below(4)), 4)
            if net.size <= 7:
                seen.append(self.check(drawn_rows(chance, net)))
                seen.append(self.check(drawing(net)))
        self.assertGreater(min(seen.count(True), seen.count(False)), 40)

    def test_against_the_faults_of_signs(self):
        wrong = 0
        for seed in range(40):
            chance = Chance(seed)
            net = drawn_net(chance, 9)
            rows = drawn_rows(chance, net)
            if max(len(net.neighbours(node)) for node in net.nodes()) <= 8:
                found = list(faults(rows.signs()))
                self.assertIs(is_good_rows(rows), not found)
                if found:
                    fault = rows_fault(rows)
                    self.assertIn(fault, found)
                    self.assertEqual([fault[0], fault], [least_break(rows), [at for at in found if at[0] == fault[0]][0]])
                    held = set(fault[0].links())
                    self.assertFalse(any(held < set(closing.links()) for closing, _, _ in found))
                    wrong += 1
        self.assertGreater(wrong, 8)

    def test_more_than_eight_neighbours(self):
        names = many_names(9)
        self.check(Rows(star(9), {"hub": names[::-1]}))
        rows = Rows(star(9) + ("aa", "ab"), {"hub": [*names[2:], *names[:2]], "ab": ["hub", "aa"]})
        self.assertIs(is_good_rows(rows), True)
        rows = Rows(star(9) + ("aa", "ab"), {"hub": [names[0], *names[2:], names[1]], "ab": ["hub", "aa"]})
        self.assertIs(is_good_rows(rows), False)
        self.check(rows)

    def test_rings_with_any_rows(self):
        for many in (3, 4, 5):
            net = Net.ring(*many_names(many))
            for given in all_rows(net):
                rows = Rows(net, given)
                self.assertEqual([is_good_rows(rows=rows), least_break(rows=rows), rows_fault(rows=rows)],
                                 [True, None, None])
                self.assertIs(is_plainly_good(net, given), True)
        net = Net.ring(*many_names(60))
        turned = {name: net.neighbours(name)[::-1] for name in many_names(60)[::3]}
        self.assertEqual([is_good_rows(Rows(net, turned)), Rows(net, turned).is_drawing], [True, False])
        both = net.without("aa") | Net.ring("aa", "ab", "ac")
        self.assertIs(is_good_rows(drawing(both)), True)

    def test_a_ring_beside_others(self):
        net = Net.ring("a", "b", "c") | Net.ring("x", "y", "z") | Net.path("u", "v")
        seen = [is_good_rows(Rows(net, {"a": ["c", "b"], "y": row})) for row in (["x", "z"], ["z", "x"])]
        self.assertEqual(seen, [True, True])
        net = net | Net.path("u", "x")
        found = [is_good_rows(Rows(net, {"a": ["c", "b"], "y": row, "x": ["u", "y", "z"]}))
                 for row in (["x", "z"], ["z", "x"])]
        self.assertEqual(sorted(found), [False, True])

    def test_large_nets(self):
        for seed, net in enumerate([widest_net(), ladder(), Net.full(*many_names(16)), star(59)]):
            for rows in (Rows(net), drawn_rows(Chance(seed), net)):
                good = is_good_rows(rows)
                self.assertIs(good, rows.is_drawing)
                if good:
                    continue
                closing = least_break(rows)
                self.assertEqual(rows_fault(rows), (closing, *plain_faults_at(net, rows.as_dict(), closing)[0]))
                for link in open_net(net, closing).links()[:12]:
                    more = closing | Closing.of(link)
                    self.assertTrue(is_good_rows(rows.opened(more)))
        self.assertTrue(is_good_rows(drawing(ladder())))

    def test_results(self):
        rows = Rows(Net.full("a", "b", "c", "d"))
        before = rows.as_dict()
        fault = rows_fault(rows)
        self.assertEqual([type(part) for part in fault], [Closing, str, list])
        self.assertIs(type(fault), tuple)
        kept = repr(fault)
        fault[2].clear()
        self.assertEqual([repr(rows_fault(rows)), rows.as_dict()], [kept, before])
        self.assertEqual(opened(before, least_break(rows)), rows.opened(least_break(rows)).as_dict())

    def test_refusals(self):
        for value in NOT_ROWS:
            for ask in (is_good_rows, least_break, rows_fault):
                self.refused(InvalidRows, {"value": value}, lambda: ask(value))


class RingPiecesTest(Refusals):
    def test_ring_pieces(self):
        net = Net.ring("d", "b", "z") | Net.ring("a", "x", "y", "c") | Net.path("e", "f", "g") | Net(["h"])
        self.assertEqual(ring_pieces(net), [["a", "c", "x", "y"], ["b", "d", "z"]])
        self.assertEqual(ring_pieces(net=net + ("a", "x") if ("a", "x") not in net else net), ring_pieces(net))
        self.assertEqual(ring_pieces(net + ("a", "y")), [["b", "d", "z"]])
        self.assertEqual(ring_pieces(net + ("a", "b")), [])
        self.assertEqual([ring_pieces(Net(["a"])), ring_pieces(Net.path("a", "b"))], [[], []])
        self.assertEqual(ring_pieces(Net.ring("a", "b", "c") | Net.ring("c", "d", "e")), [])
        ring_pieces(net)[0].clear()
        self.assertEqual(ring_pieces(net)[0], ["a", "c", "x", "y"])

    def test_by_pieces(self):
        for seed in range(40):
            net = glued(Chance(seed), many_names(14), 5)
            expected = [piece for piece in net.pieces() if len(piece) > 2
                        and all(len(net.neighbours(node)) == 2 for node in piece)]
            self.assertEqual(ring_pieces(net), expected)


class NetsOfAllClosingsTest(Refusals):
    def test_the_least_break_has_a_fault(self):
        for seed in range(30):
            chance = Chance(seed)
            rows = drawn_rows(chance, chance.pick(KNOTS[:3]))
            closing = least_break(rows)
            self.assertTrue(plain_faults_at(rows.net, rows.as_dict(), closing))
            for other in closings(rows.net):
                if set(closing.links()) < set(other.links()):
                    self.assertFalse(plain_faults_at(rows.net, rows.as_dict(), other))


if __name__ == "__main__":
    unittest.main()
