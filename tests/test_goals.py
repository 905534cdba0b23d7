import unittest

from drawn import Chance, drawn_net, drawn_signs
from oracles import closings
from outsigns.closings import Closing, open_net
from outsigns.errors import InvalidClosing, InvalidNet, InvalidSigns, NobodyLeft, OtherNet, TooMany, UnknownLink
from outsigns.errors import UnknownNode
from outsigns.faults import is_good
from outsigns.goals import first_loss, goal_signs, lost, serves
from outsigns.nets import Net
from outsigns.signs import Signs
from refusals import Refusals
from shapes import star
from values import NOT_CLOSINGS, NOT_NAMES, NOT_NETS, NOT_SIGNS, many_names, plain_walk, widest_net

KITE = Net.ring("a", "b", "c", "d") + ("a", "c")
DRAWN = Signs(KITE, {"a": ["b", "c", "d"], "b": ["c", "a"], "c": ["d", "a", "b"], "d": ["a", "c"]})
TEN = Net.ring("a", "b", "c", "d", "e") | Net.ring("e", "f", "g") | Net.path("a", "h", "i")


def plain_lost(signs, closing, goal):
    piece = open_net(signs.net, closing).piece_of(goal)
    return [node for node in piece if goal not in plain_walk(signs, closing, node, 2 * signs.net.size + 1)]


def some_signs():
    found = [Signs(KITE), DRAWN, Signs(Net.full("a", "b", "c", "d")), Signs(Net(["a", "b"])), Signs(Net(["a"]))]
    for seed in range(40):
        chance = Chance(seed)
        found.append(drawn_signs(chance, drawn_net(chance, 6)))
    return found


def goal_going(signs, goal, node, near, closed, arriving):
    """The entry of goal signs by [34], asked of the signs without the goal."""
    if node == goal:
        return None
    if goal in near and goal not in closed:
        return goal
    return signs[node, [name for name in closed if name != goal], arriving]


class LossTest(Refusals):
    def test_against_walks(self):
        seen = {True: 0, False: 0}
        for signs in some_signs():
            every = closings(signs.net)
            for goal in signs.net.nodes():
                losses = []
                for closing in every:
                    gone = plain_lost(signs, closing, goal)
                    self.assertEqual(lost(signs, closing, goal), gone)
                    losses += [(closing, start) for start in gone]
                self.assertEqual(first_loss(signs, goal), losses[0] if losses else None)
                self.assertIs(serves(signs, goal), not losses)
                seen[not losses] += 1
        self.assertGreater(min(seen.values()), 30)

    def test_ten_links(self):
        for seed in (1, 2):
            signs = drawn_signs(Chance(seed), TEN)
            for goal in TEN.nodes():
                losses = [(closing, gone[0]) for closing in closings(TEN) if (gone := plain_lost(signs, closing, goal))]
                self.assertEqual(first_loss(signs, goal), losses[0] if losses else None)

    def test_good_signs_serve_every_goal(self):
        for signs in some_signs():
            if is_good(signs):
                self.assertTrue(all(serves(signs, goal) for goal in signs.net.nodes()))

    def test_kinds_of_values(self):
        signs = DRAWN.copy()
        signs["d", [], "c"] = None
        self.assertEqual(lost(signs, Closing(), "a"), ["b", "c"])
        self.assertEqual(first_loss(signs, "a"), (Closing(), "b"))
        lost(signs, Closing(), "a").clear()
        self.assertEqual(lost(signs, Closing(), "a"), ["b", "c"])
        self.assertEqual(lost(signs=signs, closing=Closing.all_of(KITE), goal="a"), [])
        self.assertEqual([serves(signs=DRAWN, goal="a"), first_loss(signs=DRAWN, goal="a")], [True, None])

    def test_one_link_is_left_open(self):
        signs = Signs(Net.path("a", "b"))
        signs["b", [], None] = None
        self.assertEqual([first_loss(signs, "a"), serves(signs, "b")], [(Closing(), "b"), True])
        signs = Signs(Net.path("a", "b", "c"))
        signs["b", ["c"], None] = None
        self.assertEqual([first_loss(signs, "a"), serves(signs, "c")], [(Closing.of(("b", "c")), "b"), True])

    def test_widest_net(self):
        signs = Signs(widest_net())
        closing = Closing(widest_net().links()[1::2])
        for goal in many_names(60)[::7]:
            piece = open_net(signs.net, closing).piece_of(goal)
            gone = [node for node in piece if goal not in plain_walk(signs, closing, node, 241)]
            self.assertEqual(lost(signs, closing, goal), gone)

    def test_refusals(self):
        for value in NOT_SIGNS:
            self.refused(InvalidSigns, {"value": value}, lambda: lost(value, 1, 1))
            for ask in (serves, first_loss):
                self.refused(InvalidSigns, {"value": value}, lambda: ask(value, 1))
        for value in NOT_CLOSINGS:
            self.refused(InvalidClosing, {"value": value}, lambda: lost(DRAWN, value, 1))
        self.refused(UnknownLink, {"value": ("b", "d")}, lambda: lost(DRAWN, Closing.of(("x", "y"), ("d", "b")), 1))
        large = Signs(TEN + ("b", "d"))
        for value in NOT_NAMES + ["x", ("a", "b")]:
            self.refused(UnknownNode, {"value": value}, lambda: lost(DRAWN, Closing(), value))
            for ask in (serves, first_loss):
                for signs in (DRAWN, large):
                    self.refused(UnknownNode, {"value": value}, lambda: ask(signs, value))
        for ask in (serves, first_loss):
            self.refused(TooMany, {"what": "links", "limit": 10}, lambda: ask(large, "a"))
        self.assertEqual(lost(large, Closing(), "a"), plain_lost(large, Closing(), "a"))


class GoalSignsTest(Refusals):
    def made(self, net, goal, signs):
        """The goal signs, after a look at all their entries."""
        before = signs.copy()
        found = goal_signs(net, goal, signs)
        self.assertIsInstance(found, Signs)
        self.assertEqual(found.net, net)
        for node in net.nodes():
            near = net.neighbours(node)
            plain = [(closed, arriving) for closed, arriving, _ in Signs(net).entries(node)]
            told = list(found.entries(node))
            self.assertEqual([(closed, arriving) for closed, arriving, _ in told], plain)
            for closed, arriving, going in told:
                self.assertEqual(going, goal_going(before, goal, node, near, closed, arriving))
        self.assertEqual(signs, before)
        return found

    def test_every_entry(self):
        for seed in range(60):
            chance = Chance(seed)
            net = drawn_net(chance, 9)
            if len(net) > 1:
                goal = chance.pick(net.nodes())
                self.made(net, goal, drawn_signs(chance, net.without(goal)))
        self.made(star(8), "hub", Signs(Net(many_names(8))))
        self.made(star(8), "ab", drawn_signs(Chance(3), star(8).without("ab")))
        wheel = star(7) | Net.ring(*many_names(7))
        self.made(wheel, "hub", drawn_signs(Chance(4), wheel.without("hub")))

    def test_good_signs_without_the_goal_make_goal_signs_that_serve(self):
        served = 0
        for seed in range(60):
            chance = Chance(seed)
            net = drawn_net(chance, 8)
            if len(net) > 1:
                goal = chance.pick(net.nodes())
                signs = drawn_signs(chance, net.without(goal))
                if is_good(signs):
                    self.assertTrue(serves(goal_signs(net, goal, signs), goal))
                    served += 1
        self.assertGreater(served, 15)

    def test_later_changes(self):
        signs = Signs(KITE.without("d"))
        found = goal_signs(net=KITE, goal="d", signs=signs)
        other = goal_signs(KITE, "d", signs)
        for node in "abc":
            for closed, arriving, _ in list(signs.entries(node)):
                signs[node, closed, arriving] = None
        self.assertEqual(found, other)
        found["b", [], "a"] = None
        found["d", [], "a"] = "c"
        found.set_row("a", ["d", "b", "c"])
        self.assertEqual(other["b", [], "a"], "c")
        self.assertEqual([other["d", [], "a"], other["a", [], "b"]], [None, "d"])
        self.assertTrue(all(going is None for node in "abc" for _, _, going in signs.entries(node)))

    def test_refusals(self):
        signs = Signs(KITE.without("d"))
        for value in NOT_NETS:
            self.refused(InvalidNet, {"value": value}, lambda: goal_signs(value, 1, 1))
        for value in NOT_NAMES + ["x"]:
            self.refused(UnknownNode, {"value": value}, lambda: goal_signs(KITE, value, 1))
        for value in NOT_SIGNS:
            self.refused(InvalidSigns, {"value": value}, lambda: goal_signs(KITE, "d", value))
            self.refused(InvalidSigns, {"value": value}, lambda: goal_signs(Net(["a"]), "a", value))
        self.refused(NobodyLeft, {}, lambda: goal_signs(Net(["a"]), "a", signs))
        for goal in "abc":
            attributes = {"one": KITE.without(goal), "other": signs.net}
            self.refused(OtherNet, attributes, lambda: goal_signs(KITE, goal, signs))
        nine = star(9)
        attributes = {"one": nine.without("hub"), "other": signs.net}
        self.refused(OtherNet, attributes, lambda: goal_signs(nine, "hub", signs))
        made = Signs(nine.without("hub"))
        self.refused(TooMany, {"what": "neighbours", "limit": 8}, lambda: goal_signs(nine, "hub", made))
        made = Signs(nine.without("aa"))
        self.refused(TooMany, {"what": "neighbours", "limit": 8}, lambda: goal_signs(nine, "aa", made))


if __name__ == "__main__":
    unittest.main()
