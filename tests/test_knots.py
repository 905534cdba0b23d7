import copy
import itertools
import unittest

from drawn import Chance, drawn_net
from outsigns.bundles import Bundle
from outsigns.closings import Closing
from outsigns.drawings import has_drawing
from outsigns.errors import HasDrawing, InvalidNet
from outsigns.knots import find_knot, is_knot, reduction
from outsigns.nets import Net
from outsigns.rows import Rows
from refusals import Refusals
from shapes import KNOTS, glued, ladder, star, subdivided
from values import NOT_LINKS, NOT_LISTS, NOT_NAMES, NOT_NETS, many_names, widest_net

FOUR = (Net.full("a", "b", "c", "d") | Net.path("d", "e", "f") | Net.of(("f", "a")) | Net(["x"]),
        ([["a"], ["b"], ["c"], ["e", "d", "f"]], [("d", "e"), ("f", "e")],
         [("a", "b"), ("c", "a"), ("a", "f"), ("b", "c"), ("d", "b"), ("c", "d")]))
FIVE = (Net.of(*[(one, other) for one in "ab" for other in "cde"]) | Net.path("e", "f", "g") | Net.of(("a", "g")),
        ([["a"], ["b"], ["c"], ["d"], ["g", "e", "f"]], [("e", "f"), ("f", "g")],
         [("a", "c"), ("a", "d"), ("g", "a"), ("b", "c"), ("b", "d"), ("e", "b")]))


def parts_of(bundle):
    return (bundle.groups(), bundle.inner(), bundle.ties())


def planted(chance, kind):
    """A net in which a knot is planted: the net, and the tuple (groups, inner, ties)."""
    names = chance.shuffled(many_names(26))
    many = 4 if kind == "four" else 5
    groups = [[names.pop() for _ in range(1 + chance.below(4))] for _ in range(many)]
    pairs = itertools.combinations(range(4), 2) if kind == "four" else itertools.product((0, 1), (2, 3, 4))
    ties = [(chance.pick(groups[one]), chance.pick(groups[other])) for one, other in pairs]
    inner = [(group[at], chance.pick(group[:at])) for group in groups for at in range(1, len(group))]
    net = Net.of(*ties, *inner) | Net(names[:chance.below(4)] + groups[0])
    for _ in range(chance.below(8)):
        one, other = chance.shuffled(net.nodes())[:2]
        if (one, other) not in net:
            net = net + (one, other)
    return net, (groups, inner, ties)


def others_of(chance, parts):
    """Values that are nearly as the tuple (groups, inner, ties), and are no knots of its net or of any."""
    groups, inner, ties = parts
    found = [list(parts), (groups, inner), (*parts, []), (inner, groups, ties), (groups, [*inner, ties[0]], ties[1:])]
    for at, part in enumerate(parts):
        less = [part[:by] + part[by + 1:] for by in range(len(part))]
        twice = [[*part, part[by]] for by in range(len(part))]
        for value in [*less, *twice, *NOT_LISTS, *part[:1], [*part, None], [*part, ["q"]], [*part, "a"]]:
            found.append((*parts[:at], value, *parts[at + 1:]))
    for at, group in enumerate(groups):
        for value in [group + group[:1], group[1:], group[:-1], [*group, "qq"], [*group, None], [], set(group), None,
                      [*group, groups[at - 1][0]]]:
            found.append(([*groups[:at], value, *groups[at + 1:]], inner, ties))
    for at in range(len(ties)):
        for value in [list(ties[at]), (*ties[at], "a"), ties[at][:1], ties[at][0], chance.pick(ties[:at] + ties[at + 1:])]:
            found.append((groups, inner, [*ties[:at], value, *ties[at + 1:]]))
    return found


class IsKnotTest(Refusals):
    def test_true_ones(self):
        for net, (groups, inner, ties) in (FOUR, FIVE):
            self.assertIs(is_knot(net, (groups, inner, ties)), True)
            self.assertIs(is_knot(net=net, value=(tuple(groups), tuple(inner), tuple(ties))), True)
            lists = tuple(tuple(group) for group in groups)
            self.assertIs(is_knot(net, (lists[::-1], inner[::-1], [link[::-1] for link in ties])), True)
            self.assertIs(is_knot(net, (groups, [link[::-1] for link in inner], ties[::-1])), True)

    def test_planted(self):
        for seed in range(60):
            chance = Chance(seed)
            net, parts = planted(chance, chance.pick(["four", "five"]))
            kept = copy.deepcopy(parts)
            self.assertIs(is_knot(net, parts), True)
            for value in others_of(chance, parts):
                self.assertIs(is_knot(net, value), False, value)
            self.assertEqual(parts, kept)
            for link in net.links():
                held = [tuple(sorted(other)) for other in (*parts[1], *parts[2])]
                self.assertIs(is_knot(net - link, parts), link not in held)
            fresh = [pair for pair in itertools.combinations(net.nodes(), 2) if pair not in net][:5]
            for pair in fresh:
                self.assertIs(is_knot(net + pair, parts), True)
                self.assertIs(is_knot(net + pair, (parts[0], [*parts[1], pair], parts[2])), False)
                self.assertIs(is_knot(net + pair, (parts[0], parts[1], [*parts[2], pair])), False)
            node = parts[0][0][0]
            self.assertIs(is_knot(net.renamed(**{node: "other"}), parts), False)
            self.assertIs(is_knot(net.without(node), parts), False)

    def test_bundles_that_are_none(self):
        net = Net.full("a", "b", "c", "d", "e")
        for groups in (["a"], ["a", "b", "c"], ["a", "b", "c", "d", "e"]):
            links = [link for link in net.links() if set(link) <= set(groups)]
            self.assertIs(is_knot(net, ([[name] for name in groups], [], links)), False)
        five = [link for link in net.links() if len(set(link) & {"a", "b"}) == 1]
        self.assertIs(is_knot(net, ([[name] for name in "abcde"], [], five)), True)
        self.assertIs(is_knot(net, ([[name] for name in "abcde"], [], [*five, ("a", "b")])), False)
        self.assertIs(is_knot(net, ([[name] for name in "abcde"], [], [*five[1:], ("c", "d")])), False)

    def test_any_value(self):
        net, parts = FOUR
        made = Bundle(net, *parts)
        wrong = [made, [*parts], {"groups": parts[0]}, (made,), (made, [], []), net, Rows(net), Closing(), is_knot,
                 (parts, [], []), ((), (), ()), ([], [], []), (None, None, None), parts[0], ValueError("a")]
        for value in [*wrong, *NOT_LISTS, *NOT_LINKS, *NOT_NAMES]:
            self.assertIs(is_knot(net, value), False)
        for value in NOT_NETS:
            self.refused(InvalidNet, {"value": value}, lambda: is_knot(value, parts))
            self.refused(InvalidNet, {"value": value}, lambda: is_knot(value, None))


def plain_reduction(net):
    """The reduction by [64], by plain trying: the steps and the net at the end."""
    steps = []
    while True:
        less = [link for link in net.links() if not has_drawing(net - link)]
        if less:
            steps.append(("close", less[0]))
            net = net - less[0]
            continue
        less = [link for link in net.links() if not has_drawing(net.drawn_together(link))]
        if not less:
            return steps, net
        steps.append(("join", less[0]))
        net = net.drawn_together(less[0])


def is_small_knot(net):
    """Whether a net is, but for nodes without links, one of the two nets at the end of a reduction."""
    left = Net.of(*net.links())
    return Bundle.single(left).kind is not None


class FindTest(Refusals):
    def check(self, net):
        found = find_knot(net)
        if has_drawing(net):
            self.assertIs(found, None)
            self.refused(HasDrawing, {}, lambda: reduction(net))
            return False
        self.assertIs(type(found), Bundle)
        self.assertEqual(found.net, net)
        self.assertIn(found.kind, ("four", "five"))
        self.assertIs(is_knot(net, parts_of(found)), True)
        self.assertEqual(Bundle(net, *parts_of(found)), found)
        return True

    def test_planted(self):
        for seed in range(150):
            chance = Chance(seed)
            self.assertTrue(self.check(planted(chance, chance.pick(["four", "five"]))[0]))

    def test_nets_with_a_drawing(self):
        for seed in range(60):
            self.assertFalse(self.check(glued(Chance(seed), many_names(25), 8)))
        for net in (Net(["a"]), Net(many_names(60)), ladder(), star(59), Net.ring(*many_names(60))):
            self.assertFalse(self.check(net))

    def test_any_nets(self):
        seen = []
        for seed in range(500):
            chance = Chance(seed)
            pairs = chance.shuffled(itertools.combinations("abcdefg"[:4 + chance.below(4)], 2))
            seen.append(self.check(Net(list("abcdefg"), pairs[:6 + chance.below(6)])))
        self.assertGreater(min(seen.count(True), seen.count(False)), 100)

    def test_nets_made_of_others(self):
        for seed in range(60):
            chance = Chance(seed)
            net = glued(chance, many_names(9), 7) | Net(["zz", "zzz"])
            for _ in range(8):
                self.check(net)
                kind = chance.below(5)
                one, other = chance.shuffled(net.nodes())[:2]
                if kind < 3:
                    net = net if (one, other) in net else net + (one, other)
                elif kind == 3 and net.size:
                    net = net - chance.pick(net.links())
                elif net.size:
                    self.check(net.without(one))
                    self.check(net.renamed(**{one: "other"}))
                    self.check(net.drawn_together(chance.pick(net.links())))

    def test_large_nets(self):
        names = many_names(60)
        ring = Net.ring(*names)
        filled = Net.path(*names[1:]) | Net.of(*[(names[0], name) for name in names[1:]])
        paths = Net.of(*[pair for group in range(4) for pair in zip(names[15 * group:], names[15 * group + 1:15 * group + 15])],
                       *[(names[15 * one + other], names[15 * other + one]) for one, other in
                         itertools.combinations(range(4), 2)])
        stars = Net.of(*[(names[12 * group], name) for group in range(5) for name in names[12 * group + 1:12 * group + 12]],
                       *[(names[12 * one + other], names[12 * other + one + 5]) for one in (0, 1) for other in (2, 3, 4)])
        for net in (widest_net(), Net.full(*names[:16]), filled + (names[1], names[59]), paths, stars,
                    ladder() + (names[0], names[59]), ring + (names[0], names[30]) + (names[10], names[50]),
                    subdivided(Chance(1), KNOTS[0], names[5:]), subdivided(Chance(2), KNOTS[1], names[5:])):
            self.assertTrue(self.check(net))
            self.assertTrue(all(word in ("close", "join") for word, _ in reduction(net)))
        for net in (filled, ring + (names[0], names[30]), ladder()):
            self.assertFalse(self.check(net))

    def test_position_and_name(self):
        net = KNOTS[5]
        self.assertEqual(find_knot(net=net), find_knot(net))
        self.assertEqual(reduction(net=net), reduction(net))
        for value in NOT_NETS:
            for ask in (find_knot, reduction):
                self.refused(InvalidNet, {"value": value}, lambda: ask(value))


class ReductionTest(Refusals):
    def test_example(self):
        self.assertEqual(reduction(Net.full("a", "b", "c", "d")), [])
        self.assertEqual(reduction(KNOTS[2]), [("close", ("a", "b"))])
        net = KNOTS[1] - ("b", "e") | Net.path("e", "aa", "b") | Net.path("a", "z")
        self.assertEqual(reduction(net), [("close", ("a", "z")), ("join", ("a", "e"))])

    def test_against_plain_trying(self):
        seen = {"close": 0, "join": 0}
        for seed in range(250):
            chance = Chance(seed)
            net = drawn_net(chance, 22) if seed % 3 == 0 else subdivided(
                chance, chance.pick(KNOTS), chance.shuffled(["aa", "bb", "cc", "dd", "q", "r", "s"])[:chance.below(8)])
            if seed % 3 == 2:
                net = net | glued(chance, many_names(6), 4)
            if has_drawing(net):
                continue
            steps, end = plain_reduction(net)
            self.assertEqual(reduction(net), steps)
            self.assertTrue(is_small_knot(end), end)
            for word, _ in steps:
                seen[word] += 1
        self.assertGreater(min(seen.values()), 100)

    def test_returned_lists_are_new(self):
        reduction(KNOTS[3]).clear()
        self.assertEqual(len(reduction(KNOTS[3])), 4)


if __name__ == "__main__":
    unittest.main()
