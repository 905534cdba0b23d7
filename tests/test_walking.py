import itertools
import random
import unittest

from outsigns.closings import Closing, open_net
from outsigns.errors import InvalidClosing, InvalidCount, InvalidEntry, InvalidSigns, UnknownLink, UnknownNode
from outsigns.nets import Net
from outsigns.signs import Signs
from outsigns.walking import Walker, is_good_at, met, missed, next_node, walk, walk_nodes
from refusals import Refusals
from values import NOT_CLOSINGS, NOT_COUNTS, NOT_NAMES, NOT_SIGNS, plain_walk, widest_net

FULL = Net.full("a", "b", "c", "d")
KITE = Net.ring("a", "b", "c", "d") + ("a", "c")
DRAWN = Signs(KITE, {"a": ["b", "c", "d"], "b": ["c", "a"], "c": ["d", "a", "b"], "d": ["a", "c"]})


def some_signs():
    """Signs of several nets: of rows, and with changed entries, some of which tell to stay."""
    found = [Signs(FULL), Signs(KITE), DRAWN, Signs(Net(["a", "b"])), Signs(Net.ring("a", "b", "c", "d"))]
    chance = random.Random(7)
    for at in range(8):
        signs = Signs(FULL if at > 3 else KITE)
        for node in "abcd":
            for closed, arriving, _ in list(signs.entries(node)):
                left = [name for name in signs.net.neighbours(node) if name not in closed]
                if chance.random() < 0.4:
                    signs[node, closed, arriving] = chance.choice([None, *left])
        found.append(signs)
    return found


def closings(net):
    links = net.links()
    return [Closing(part) for many in range(len(links) + 1) for part in itertools.combinations(links, many)]


def cut_walk(nodes):
    """The lead and the loop of a long walk that never ends, by comparing all arrivals."""
    arrivals = list(zip(nodes, nodes[1:]))
    for first in range(len(arrivals)):
        if arrivals[first] in arrivals[first + 1:]:
            again = arrivals.index(arrivals[first], first + 1)
            return nodes[:first + 1], nodes[first + 1:again + 1]
    raise AssertionError("no arrival is repeated")


class WalkTest(Refusals):
    def test_all_walks(self):
        ended = endless = 0
        for signs in some_signs():
            net = signs.net
            most = 2 * net.size
            for closing in closings(net):
                for start in net.nodes():
                    nodes = plain_walk(signs, closing, start, 3 * most + 3)
                    lead, loop = walk(signs, closing, start)
                    if len(nodes) <= most + 1:
                        self.assertEqual((lead, loop), (nodes, []))
                        ended += 1
                    else:
                        self.assertEqual((lead, loop), cut_walk(nodes))
                        endless += 1
                    found = sorted(set(nodes))
                    piece = open_net(net, closing).piece_of(start)
                    self.assertEqual(met(signs, closing, start), found)
                    self.assertEqual(missed(signs, closing, start), sorted(set(piece) - set(found)))
                    self.assertEqual(list(walk_nodes(signs, closing, start, 3 * most + 4)), nodes)
        self.assertGreater(min(ended, endless), 100)

    def test_good_at(self):
        seen = {True: 0, False: 0}
        for signs in some_signs():
            for closing in closings(signs.net):
                good = all(missed(signs, closing, start) == [] for start in signs.net.nodes())
                self.assertIs(is_good_at(signs, closing), good)
                seen[good] += 1
        self.assertGreater(min(seen.values()), 50)

    def test_start_is_no_arrival(self):
        signs = Signs(Net.ring("a", "b", "c"))
        self.assertEqual(walk(signs, Closing(), "a"), (["a"], ["b", "c", "a"]))
        signs = Signs(Net.path("a", "b"))
        self.assertEqual(walk(signs, Closing(), "a"), (["a"], ["b", "a"]))

    def test_lead_of_several_nodes(self):
        signs = Signs(Net.path("a", "b", "c", "d"))
        signs["b", [], "c"] = "c"
        self.assertEqual(walk(signs, Closing(), "a"), (["a", "b"], ["c", "d", "c", "b"]))
        signs = Signs(Net.path("a", "b", "c", "d", "e"))
        signs["d", [], "e"] = "e"
        self.assertEqual(walk(signs, Closing(), "a"), (["a", "b", "c", "d"], ["e", "d"]))
        self.assertEqual(walk(signs, Closing.of(("d", "e")), "a"), (["a"], ["b", "c", "d", "c", "b", "a"]))

    def test_walks_that_end(self):
        signs = Signs(Net.path("a", "b", "c"))
        signs["c", [], "b"] = None
        self.assertEqual(walk(signs, Closing(), "a"), (["a", "b", "c"], []))
        self.assertEqual(walk(signs, Closing(), "b"), (["b", "a", "b", "c"], []))
        signs["a", [], None] = None
        self.assertEqual(walk(signs, Closing(), "a"), (["a"], []))
        self.assertEqual(walk(signs, Closing.of(("b", "c")), "c"), (["c"], []))
        self.assertEqual(walk(Signs(Net(["a"])), Closing(), "a"), (["a"], []))

    def test_results_are_new(self):
        signs = Signs(FULL)
        walk(signs, Closing(), "a")[0].clear()
        walk(signs, Closing(), "a")[1].clear()
        met(signs, Closing(), "a").clear()
        self.assertEqual(walk(signs, Closing(), "a"), (["a"], ["b", "c", "d", "a"]))
        self.assertEqual(met(signs, Closing(), "a"), ["a", "b", "c", "d"])

    def test_next_node(self):
        for signs in some_signs():
            for closing in closings(signs.net)[:20]:
                for node in signs.net.nodes():
                    closed = closing.at(node)
                    for arriving in [None] + [name for name in signs.net.neighbours(node) if name not in closed]:
                        found = next_node(signs, closing, node, arriving)
                        self.assertEqual(found, signs[node, closed, arriving])

    def test_many(self):
        signs = Signs(FULL)
        self.assertEqual(list(walk_nodes(signs, Closing(), "a", 0)), [])
        self.assertEqual(list(walk_nodes(signs, Closing(), "a", 1)), ["a"])
        self.assertEqual(list(walk_nodes(signs, Closing(), "a", 6)), ["a", "b", "c", "d", "a", "b"])
        endless = walk_nodes(signs, Closing(), "a", 10 ** 29)
        self.assertEqual([next(endless) for _ in range(5)], ["a", "b", "c", "d", "a"])

    def test_widest_net(self):
        net = widest_net()
        signs = Signs(net)
        for closing in (Closing(), Closing(net.links()[::3]), Closing(net.links()[1::2]), Closing.all_of(net)):
            misses = False
            for start in net.nodes():
                nodes = plain_walk(signs, closing, start, 500)
                if len(nodes) == 501:
                    self.assertEqual(walk(signs, closing, start), cut_walk(nodes))
                self.assertEqual(met(signs, closing, start), sorted(set(nodes)))
                piece = open_net(net, closing).piece_of(start)
                misses = misses or set(nodes) != set(piece)
            self.assertIs(is_good_at(signs, closing), not misses)

    def test_parameters_by_name(self):
        signs, closing = Signs(FULL), Closing.of(("b", "d"))
        self.assertEqual(next_node(signs=signs, closing=closing, node="b", arriving="a"), "c")
        self.assertEqual(walk(signs=signs, closing=closing, start="c"), (["c"], ["a", "d", "c"]))
        self.assertEqual(list(walk_nodes(signs=signs, closing=closing, start="c", many=2)), ["c", "a"])
        self.assertEqual(met(signs=signs, closing=closing, start="c"), ["a", "c", "d"])
        self.assertEqual(missed(signs=signs, closing=closing, start="c"), ["b"])
        self.assertIs(is_good_at(signs=signs, closing=closing), False)
        walker = Walker(signs=signs, closing=closing, start="c")
        self.assertEqual(walker(many=2), ["a", "d"])


class RefusalsTest(Refusals):
    def asks(self):
        """The calls with signs, a closing and a node; the last ones have a wrong value behind these."""
        return [
            walk, met, missed, Walker,
            lambda signs, closing, node: next_node(signs, closing, node, 1),
            lambda signs, closing, node: next(walk_nodes(signs, closing, node, -1)),
        ]

    def test_signs_closing_start(self):
        signs = Signs(KITE)
        foreign = Closing.of(("a", "b"), ("b", "d"), ("x", "y"))
        for ask in self.asks():
            for value in NOT_SIGNS:
                self.refused(InvalidSigns, {"value": value}, lambda: ask(value, None, None))
            for value in NOT_CLOSINGS:
                self.refused(InvalidClosing, {"value": value}, lambda: ask(signs, value, None))
            self.refused(UnknownLink, {"value": ("b", "d")}, lambda: ask(signs, foreign, None))
            for value in NOT_NAMES + ["x", ("a", "b")]:
                self.refused(UnknownNode, {"value": value}, lambda: ask(signs, Closing(), value))

    def test_good_at(self):
        for value in NOT_SIGNS:
            self.refused(InvalidSigns, {"value": value}, lambda: is_good_at(value, None))
        for value in NOT_CLOSINGS:
            self.refused(InvalidClosing, {"value": value}, lambda: is_good_at(DRAWN, value))
        self.refused(UnknownLink, {"value": ("b", "d")}, lambda: is_good_at(DRAWN, Closing.of(("b", "d"))))

    def test_arriving(self):
        closing = Closing.of(("b", "a"))
        for value in NOT_NAMES + ["a", "b", "x", ("a", "c")]:
            if value is not None:
                self.refused(InvalidEntry, {"value": value}, lambda: next_node(DRAWN, closing, "a", value))
        self.assertEqual(next_node(DRAWN, closing, "a", "c"), "d")

    def test_many(self):
        walker = Walker(DRAWN, Closing(), "a")
        for value in NOT_COUNTS:
            made = walk_nodes(DRAWN, Closing(), "a", value)
            self.refused(InvalidCount, {"value": value}, lambda: next(made))
            self.refused(InvalidCount, {"value": value}, lambda: walker(value))
        self.assertEqual([walker.where, walker.taken], ["a", 0])

    def test_generator_refuses_when_the_iteration_begins(self):
        for args in ((None, 1, 1, 1), (DRAWN, 1, 1, 1), (DRAWN, Closing(), "x", 1), (DRAWN, Closing(), "a", True)):
            walk_nodes(*args)


class WalkerTest(Refusals):
    def told(self, walker):
        return [walker.where, walker.arriving, walker.met_nodes, walker.taken]

    def test_step_by_step(self):
        walker = Walker(Signs(FULL), Closing.of(("b", "d")), "c")
        self.assertEqual(self.told(walker), ["c", None, ["c"], 0])
        self.assertEqual(walker.go(), "a")
        self.assertEqual(self.told(walker), ["a", "c", ["a", "c"], 1])
        self.assertEqual(walker(0), [])
        self.assertEqual(walker(3), ["d", "c", "a"])
        self.assertEqual(self.told(walker), ["a", "c", ["a", "c", "d"], 4])
        walker.met_nodes.clear()
        self.assertEqual(walker.met_nodes, ["a", "c", "d"])

    def test_stays(self):
        signs = Signs(Net.path("a", "b", "c"))
        signs["c", [], "b"] = None
        walker = Walker(signs, Closing(), "a")
        self.assertEqual(walker(10 ** 29), ["b", "c"])
        for _ in range(3):
            self.assertIs(walker.go(), None)
            self.assertEqual(walker(2), [])
            self.assertEqual(self.told(walker), ["c", "b", ["a", "b", "c"], 2])
        alone = Walker(Signs(Net(["a"])), Closing(), "a")
        self.assertIs(alone.go(), None)
        self.assertEqual(self.told(alone), ["a", None, ["a"], 0])

    def test_goes_as_the_walk(self):
        for signs in some_signs():
            for closing in closings(signs.net)[::3]:
                for start in signs.net.nodes():
                    walker = Walker(signs, closing, start)
                    nodes = plain_walk(signs, closing, start, 20)
                    self.assertEqual([start] + walker(20), nodes)
                    self.assertEqual(self.told(walker), [
                        nodes[-1], nodes[-2] if len(nodes) > 1 else None, sorted(set(nodes)), len(nodes) - 1])

    def test_keeps_the_signs(self):
        signs = Signs(FULL)
        walker = Walker(signs, Closing(), "a")
        for node in "abcd":
            signs.set_row(node, signs.net.neighbours(node)[::-1])
            signs[node, [], None] = None
        self.assertEqual(walker(5), ["b", "c", "d", "a", "b"])
        self.assertEqual(list(walk_nodes(signs, Closing(), "a", 5)), ["a"])


if __name__ == "__main__":
    unittest.main()
