import itertools
import random
import unittest

from outsigns.closings import Closing, open_net
from outsigns.errors import InvalidNeighbours, InvalidNet, InvalidSigns, TooMany, UnknownNode
from outsigns.faults import all_closings, faults, fewest_closed, first_fault, is_good, not_turning, star, star_fault
from outsigns.faults import unused
from outsigns.nets import Net
from outsigns.signs import Signs
from refusals import Refusals
from values import NOT_LISTS, NOT_NAMES, NOT_NETS, NOT_SIGNS, many_names, plain_walk, widest_net

FULL = Net.full("a", "b", "c", "d")
KITE = Net.ring("a", "b", "c", "d") + ("a", "c")
DRAWN = Signs(KITE, {"a": ["b", "c", "d"], "b": ["c", "a"], "c": ["d", "a", "b"], "d": ["a", "c"]})
TEN = Net.ring("a", "b", "c", "d", "e") | Net.ring("e", "f", "g") | Net.path("a", "h", "i")


def closings(net):
    links = net.links()
    return [Closing(part) for many in range(len(links) + 1) for part in itertools.combinations(links, many)]


def expected_faults(signs):
    found = []
    for closing in closings(signs.net):
        for start in signs.net.nodes():
            piece = open_net(signs.net, closing).piece_of(start)
            nodes = plain_walk(signs, closing, start, 2 * signs.net.size + 1)
            if set(nodes) != set(piece):
                found.append((closing, start, [node for node in piece if node not in nodes]))
    return found


def expected_unused(signs):
    net, used = signs.net, set()
    for closing in closings(net):
        for start in net.nodes():
            nodes = plain_walk(signs, closing, start, 2 * net.size + 1)
            used |= {(here, tuple(closing.at(here)), before) for before, here in zip(nodes, nodes[1:])}
    return [(node, closed, arriving) for node in net.nodes() for closed, arriving, _ in signs.entries(node)
            if arriving is not None and (node, closed, arriving) not in used]


def changed(signs, seed, often):
    """A copy with some entries changed."""
    chance = random.Random(seed)
    other = signs.copy()
    for node in signs.net.nodes():
        for closed, arriving, _ in signs.entries(node):
            left = [name for name in signs.net.neighbours(node) if name not in closed]
            if chance.random() < often:
                other[node, closed, arriving] = chance.choice([None, *left])
    return other


def some_signs():
    found = [Signs(FULL), Signs(KITE), DRAWN, Signs(Net(["a", "b"])), Signs(Net.path("a", "b", "c"))]
    found += [changed(DRAWN, seed, 0.05) for seed in range(6)]
    found += [changed(Signs(FULL), seed, 0.3) for seed in range(3)]
    found += [changed(Signs(Net.ring("a", "b", "c") | Net.path("x", "y", "z")), seed, 0.1) for seed in range(4)]
    found += [changed(Signs(Net.path("b", "a", "d", "c")), seed, 0.7) for seed in range(8)]
    return found


class AllClosingsTest(Refusals):
    def test_in_order(self):
        for net in (Net(["a"]), Net.path("a", "b"), KITE, FULL, Net.full("a", "aa", "ab", "b")):
            found = list(all_closings(net))
            self.assertEqual(found, closings(net))
            self.assertEqual(len(found), 2 ** net.size)
            self.assertTrue(all(one < other for one, other in zip(found, found[1:])))
            self.assertTrue(all(isinstance(closing, Closing) for closing in found))

    def test_ten_links(self):
        self.assertEqual(TEN.size, 10)
        self.assertEqual(list(all_closings(net=TEN)), closings(TEN))

    def test_refusals(self):
        for value in NOT_NETS:
            made = all_closings(value)
            self.refused(InvalidNet, {"value": value}, lambda: next(made))
        for net in (TEN + ("b", "d"), widest_net()):
            made = all_closings(net)
            self.refused(TooMany, {"what": "links", "limit": 10}, lambda: next(made))


class FaultsTest(Refusals):
    def test_all_faults(self):
        good = 0
        for signs in some_signs():
            expected = expected_faults(signs)
            self.assertEqual(list(faults(signs)), expected)
            self.assertEqual(list(faults(signs.copy())), expected)
            self.assertEqual(first_fault(signs), expected[0] if expected else None)
            self.assertIs(is_good(signs), expected == [])
            self.assertEqual(fewest_closed(signs), min([len(fault[0]) for fault in expected], default=None))
            good += expected == []
        self.assertTrue(2 < good < len(some_signs()) - 5)

    def test_kinds_of_values(self):
        fault = first_fault(Signs(FULL))
        self.assertEqual(fault, (Closing.of(("a", "c")), "b", ["c"]))
        self.assertEqual([type(part) for part in fault], [Closing, str, list])
        self.assertIs(type(fault), tuple)
        fault[2].clear()
        self.assertEqual(first_fault(Signs(FULL))[2], ["c"])
        self.assertEqual(fewest_closed(Signs(FULL)), 1)

    def test_no_rows_of_a_knot_are_good(self):
        orders = [list(itertools.permutations(FULL.neighbours(node))) for node in "abcd"]
        for rows in itertools.islice(itertools.product(*orders), 0, None, 13):
            self.assertIs(is_good(Signs(FULL, dict(zip("abcd", rows)))), False)

    def test_drawn_and_rings_are_good(self):
        self.assertIs(is_good(DRAWN), True)
        self.assertEqual([list(faults(DRAWN)), first_fault(DRAWN), fewest_closed(DRAWN)], [[], None, None])
        ring = Net.ring("a", "b", "c", "d")
        for turned in itertools.product((1, -1), repeat=4):
            rows = {node: ring.neighbours(node)[::turn] for node, turn in zip("abcd", turned)}
            self.assertIs(is_good(Signs(ring, rows)), True)
        self.assertIs(is_good(Signs(Net(["a"]))), True)

    def test_behind_changes(self):
        signs = DRAWN.copy()
        signs["b", [], "c"] = None
        self.assertEqual(list(faults(signs)), expected_faults(signs))
        self.assertIs(is_good(signs), False)
        self.assertIs(is_good(DRAWN), True)
        signs.set_row("b", ["c", "a"])
        self.assertEqual(signs, DRAWN)
        self.assertIs(is_good(signs), True)
        signs.set_row("a", ["c", "b", "d"])
        self.assertEqual(list(faults(signs)), expected_faults(signs))
        self.assertNotEqual(first_fault(signs), None)

    def test_ten_links(self):
        signs = Signs(TEN)
        self.assertEqual(list(faults(signs)), expected_faults(signs))
        self.assertEqual(unused(signs), expected_unused(signs))

    def test_many_nodes(self):
        net = TEN | Net(many_names(51))
        self.assertEqual([len(net), net.size], [60, 10])
        self.assertIs(is_good(Signs(net)), is_good(Signs(TEN)))
        self.assertEqual(unused(Signs(net)), unused(Signs(TEN)))

    def test_refusals(self):
        large = Signs(TEN + ("b", "d"))
        asks = [first_fault, is_good, fewest_closed, unused, lambda signs: next(faults(signs))]
        for ask in asks:
            for value in NOT_SIGNS:
                self.refused(InvalidSigns, {"value": value}, lambda: ask(value))
            for signs in (large, Signs(widest_net())):
                self.refused(TooMany, {"what": "links", "limit": 10}, lambda: ask(signs))
        faults(None)
        faults(large)


class UnusedTest(Refusals):
    def test_all_entries(self):
        some = 0
        for signs in some_signs():
            self.assertEqual(unused(signs), expected_unused(signs))
            self.assertEqual(unused(signs.copy()), expected_unused(signs))
            some += unused(signs) != []
        self.assertGreater(some, 3)

    def test_entries_to_which_nobody_comes(self):
        signs = Signs(Net.path("a", "b", "c"))
        self.assertEqual(unused(signs), [])
        signs["a", [], None] = None
        signs["b", [], "c"] = None
        self.assertEqual(unused(signs), [])
        signs["b", [], None] = "c"
        signs["b", ["c"], None] = None
        self.assertEqual(unused(signs), [("a", (), "b"), ("b", (), "a"), ("b", ("c",), "a")])
        signs["b", [], "a"] = None
        self.assertEqual(unused(signs), [("a", (), "b"), ("b", (), "a"), ("b", ("c",), "a")])

    def test_an_entry_that_tells_to_stay_is_asked(self):
        signs = Signs(Net.path("a", "b"))
        signs["b", [], "a"] = None
        self.assertEqual(unused(signs), [])


class TurningTest(Refusals):
    def test_not_turning(self):
        for signs in some_signs() + [Signs(widest_net()), changed(Signs(widest_net()), 1, 0.01)]:
            expected = []
            for node in signs.net.nodes():
                names = signs.net.neighbours(node)
                for many in range(len(names) - 1):
                    for closed in itertools.combinations(names, many):
                        if not signs.turns(node, closed):
                            expected.append((node, closed))
            self.assertEqual(not_turning(signs), expected)

    def test_star(self):
        self.assertEqual(star(KITE, "a", ["d", "b"]), Closing.of(("a", "c"), ("b", "c"), ("c", "d")))
        self.assertEqual(star(net=KITE, node="a", neighbours=()), Closing.all_of(KITE))
        self.assertEqual(star(KITE, "b", ("a", "c")), Closing.of(("a", "c"), ("a", "d"), ("c", "d")))
        self.assertEqual(len(star(widest_net(), "ac", ["aa", "ae"])), 118)
        self.assertEqual(star(Net(["a"]), "a", []), Closing())

    def test_star_refuses(self):
        for value in NOT_NETS:
            self.refused(InvalidNet, {"value": value}, lambda: star(value, 1, 1))
        for value in NOT_NAMES + ["x"]:
            self.refused(UnknownNode, {"value": value}, lambda: star(KITE, value, 1))
        wrong = [["a"], ["d"], ["a", "c", "a"], ["c", "c"], ["x"], [1], [None], [["a"]], ["A"], [True], [("a", "b")]]
        for value in NOT_LISTS + wrong:
            if value != ["a"]:
                self.refused(InvalidNeighbours, {"value": value}, lambda: star(KITE, "b", value))

    def test_star_fault(self):
        wrong = 0
        for signs in some_signs() + [changed(Signs(widest_net()), seed, 0.002) for seed in range(5)]:
            places = not_turning(signs)
            fault = star_fault(signs)
            if not places:
                self.assertIs(fault, None)
                continue
            wrong += 1
            node, closed = places[0]
            left = [name for name in signs.net.neighbours(node) if name not in closed]
            closing = star(signs.net, node, left)
            piece = open_net(signs.net, closing).piece_of(node)
            self.assertEqual(piece, sorted([node, *left]))
            starts = [name for name in piece if set(plain_walk(signs, closing, name, 241)) != set(piece)]
            gone = sorted(set(piece) - set(plain_walk(signs, closing, starts[0], 241)))
            self.assertEqual(fault, (closing, starts[0], gone))
            if signs.net.size <= 10:
                self.assertIn(fault, list(faults(signs)))
        self.assertGreater(wrong, 8)

    def test_good_signs_turn(self):
        for signs in some_signs():
            if is_good(signs):
                self.assertEqual([not_turning(signs), star_fault(signs)], [[], None])

    def test_wrong_signs(self):
        for value in NOT_SIGNS:
            for ask in (not_turning, star_fault):
                self.refused(InvalidSigns, {"value": value}, lambda: ask(value))

    def test_parameters_by_name(self):
        signs = Signs(FULL)
        self.assertEqual(list(faults(signs=signs)), list(faults(signs)))
        self.assertEqual([first_fault(signs=signs), fewest_closed(signs=signs)], [first_fault(signs), 1])
        self.assertEqual([is_good(signs=signs), unused(signs=signs)], [False, unused(signs)])
        self.assertEqual([not_turning(signs=signs), star_fault(signs=signs)], [[], None])


if __name__ == "__main__":
    unittest.main()
