import itertools
import unittest

from outsigns.closings import Closing
from outsigns.errors import InvalidEntry, InvalidNet, InvalidRow, InvalidSigns, OtherNet, TooMany, UnknownNode
from outsigns.nets import Net
from outsigns.signs import Signs
from refusals import Refusals
from values import NOT_LISTS, NOT_NAMES, NOT_NETS, NOT_SIGNS, many_names, next_in_row, widest_net

KITE = Net.ring("a", "b", "c", "d") + ("a", "c")
ROWS = {"a": ("d", "b", "c"), "b": ("c", "a"), "c": ("b", "d", "a"), "d": ("a", "c")}
WHEEL = Net.of(*[("hub", name) for name in many_names(8)]) | Net.path(*many_names(8))


def parts(names):
    return [part for many in range(len(names) + 1) for part in itertools.combinations(names, many)]


def expected_entries(row):
    """The entries of a row, in the sequence in which they are listed."""
    names = sorted(row)
    found = []
    for closed in parts(names):
        for arriving in [None] + [name for name in names if name not in closed]:
            found.append((closed, arriving, next_in_row(row, closed, arriving)))
    return found


def told(signs):
    return {node: list(signs.entries(node)) for node in signs.net.nodes()}


class MadeTest(Refusals):
    def test_every_entry_of_rows(self):
        turned = {"hub": many_names(8)[::-1]}
        for net, rows in [(KITE, ROWS), (Net(["a"]), {}), (Net.path("a", "b"), {}), (WHEEL, turned)]:
            signs = Signs(net, rows)
            for node in net.nodes():
                row = rows.get(node, tuple(net.neighbours(node)))
                self.assertEqual(list(signs.entries(node)), expected_entries(row))
                for closed, arriving, going in expected_entries(row):
                    self.assertEqual(signs[node, list(closed), arriving], going)

    def test_ways_to_make_them(self):
        signs = Signs(KITE, ROWS)
        self.assertEqual(Signs(net=KITE, rows={node: list(ROWS[node]) for node in "dbca"}), signs)
        self.assertEqual(Signs.of_rows(KITE, **ROWS), signs)
        self.assertEqual(Signs.of_rows(net=KITE, **ROWS), signs)
        self.assertEqual(signs.of_rows(KITE, **ROWS), signs)
        plain = {node: KITE.neighbours(node) for node in "abcd"}
        for rows in (None, {}, plain, {"b": ["a", "c"]}):
            self.assertEqual(Signs(KITE, rows), Signs(KITE))
        self.assertEqual(Signs.of_rows(KITE), Signs(KITE))
        self.assertEqual(told(Signs(KITE, {"c": ["b", "d", "a"]}))["a"], told(Signs(KITE))["a"])
        self.assertNotEqual(Signs(KITE, {"c": ["b", "d", "a"]}), Signs(KITE))

    def test_rows_are_copied(self):
        rows = {"a": ["d", "b", "c"]}
        signs = Signs(KITE, rows)
        rows["a"].reverse()
        rows["b"] = ["c", "a"]
        self.assertEqual(signs, Signs(KITE, {"a": ["d", "b", "c"]}))

    def test_net(self):
        self.assertEqual(Signs(KITE).net, KITE)
        self.assertEqual([Signs.MOST_NEIGHBOURS, Signs(KITE).MOST_NEIGHBOURS], [8, 8])

    def test_wrong_rows(self):
        for value in NOT_NETS:
            self.refused(InvalidNet, {"value": value}, lambda: Signs(value, 1))
            self.refused(InvalidNet, {"value": value}, lambda: Signs.of_rows(value, a=1))
        for value in [True, False, 0, 1, "", "a", [], [("a", ["b"])], (), {"a"}, KITE, Closing()]:
            self.refused(InvalidRow, {"node": None}, lambda: Signs(KITE, value))
        for key in [None, True, 1, "", "x", "A", ("a", "b"), b"a", ("a",)]:
            self.refused(InvalidRow, {"node": None}, lambda: Signs(KITE, {"a": 1, key: ["b"]}))
        self.refused(InvalidRow, {"node": None}, lambda: Signs.of_rows(KITE, a=1, x=[]))
        wrong = [["a"], ["c"], ["a", "c", "a"], ["a", "a"], ["a", "d"], ["a", "c", "d"], ["a", "C"], ["a", 1], "ac",
                 ["a", "b"], ["a", None], ["a", ["c"]], {"a": 1, "c": 1}, {"a", "c"}, [("a", "c")]]
        for row in NOT_LISTS + [[], ()] + wrong:
            self.refused(InvalidRow, {"node": "b"}, lambda: Signs(KITE, {"d": 1, "b": row, "a": ["b", "c", "d"]}))
            self.refused(InvalidRow, {"node": "b"}, lambda: Signs.of_rows(KITE, d=1, b=row))
        self.refused(InvalidRow, {"node": "a"}, lambda: Signs(KITE, {"c": 1, "b": 1, "a": ["b", "c"]}))

    def test_neighbours_limit(self):
        star = Net.of(*[("hub", name) for name in many_names(9)])
        self.assertEqual(len(list(Signs(star.without("aa")).entries("hub"))), 256 * 5)
        self.refused(TooMany, {"what": "neighbours", "limit": 8}, lambda: Signs(star))
        self.refused(TooMany, {"what": "neighbours", "limit": 8}, lambda: Signs.of_rows(star, aa=["hub"]))
        self.refused(InvalidRow, {"node": "aa"}, lambda: Signs(star, {"aa": []}))
        self.refused(InvalidRow, {"node": "hub"}, lambda: Signs(star, {"hub": many_names(8)}))
        self.refused(InvalidRow, {"node": None}, lambda: Signs(star, {"x": []}))

    def test_widest_net(self):
        signs = Signs(widest_net())
        self.assertEqual(signs["ac", ["ab"], "aa"], "ad")
        self.assertEqual(signs["ac", [], "ae"], "aa")


class EntriesTest(Refusals):
    def test_closed_in_any_sequence(self):
        signs = Signs(WHEEL)
        names = many_names(8)
        for closed in itertools.permutations(names[2:6]):
            for kind in (list, tuple):
                self.assertEqual(signs["hub", kind(closed), "ab"], "ag")
                self.assertEqual(signs["hub", kind(closed), None], "aa")
                self.assertEqual(signs["hub", kind(closed), "ah"], "aa")

    def test_alone(self):
        signs = Signs(Net(["a"]))
        self.assertEqual(list(signs.entries("a")), [((), None, None)])
        self.assertIs(signs["a", [], None], None)
        self.assertEqual(list(Signs(Net.path("a", "b")).entries(node="a")),
                         [((), None, "b"), ((), "b", "b"), (("b",), None, None)])

    def test_set(self):
        signs = Signs(KITE)
        before = told(signs)
        signs["a", ["d", "b"], "c"] = None
        self.assertIs(signs["a", ("b", "d"), "c"], None)
        signs["a", (), None] = "d"
        self.assertEqual(signs["a", [], None], "d")
        signs["a", [], "d"] = "d"
        found = told(signs)
        self.assertEqual([found[node] for node in "bcd"], [before[node] for node in "bcd"])
        changed = [new for new, old in zip(found["a"], before["a"]) if new != old]
        self.assertEqual(changed, [((), None, "d"), ((), "d", "d"), (("b", "d"), "c", None)])
        self.assertEqual(signs.differences(Signs(KITE)),
                         [("a", (), None), ("a", (), "d"), ("a", ("b", "d"), "c")])
        signs["a", ["d", "b"], "c"] = "c"
        signs["a", (), None] = "b"
        signs["a", [], "d"] = "b"
        self.assertEqual(signs, Signs(KITE))

    def test_wrong_subscripts(self):
        signs = Signs(KITE)
        for at in ["a", None, True, 1, ["a", [], None], (), ("a",), ("a", []), ("a", [], None, None), "abc", {}]:
            self.refused(InvalidEntry, {"value": at}, lambda: signs[at])
            self.refused(InvalidEntry, {"value": at}, lambda: signs.__setitem__(at, "x"))
        for node in NOT_NAMES + ["x", ("a", "b")]:
            self.refused(UnknownNode, {"value": node}, lambda: signs[node, 1, 1])
            self.refused(UnknownNode, {"value": node}, lambda: signs.__setitem__((node, 1, 1), 1))
        wrong = [["b", "b"], ["b", "c", "d", "b"], ["a"], ["x"], ["b", 1], [None], ["B"], [["b"]], ("b", "x"), [True]]
        for closed in NOT_LISTS + wrong:
            self.refused(InvalidEntry, {"value": closed}, lambda: signs["a", closed, 1])
            self.refused(InvalidEntry, {"value": closed}, lambda: signs.__setitem__(("a", closed, 1), 1))
        for value in NOT_NAMES + ["a", "b", "x", ("c", "d")]:
            if value is None:
                continue
            self.refused(InvalidEntry, {"value": value}, lambda: signs["a", ["b"], value])
            self.refused(InvalidEntry, {"value": value}, lambda: signs.__setitem__(("a", ["b"], value), 1))
            self.refused(InvalidEntry, {"value": value}, lambda: signs.__setitem__(("a", ["b"], "c"), value))
            self.refused(InvalidEntry, {"value": value}, lambda: signs.__setitem__(("a", ["b"], None), value))
        self.assertEqual(signs, Signs(KITE))

    def test_entries_refuse_when_the_iteration_begins(self):
        signs = Signs(KITE)
        for value in NOT_NAMES + ["x"]:
            made = signs.entries(value)
            self.refused(UnknownNode, {"value": value}, lambda: next(made))

    def test_not_iterated_over(self):
        with self.assertRaises(TypeError):
            iter(Signs(KITE))

    def test_set_row(self):
        signs = Signs(KITE)
        signs["b", [], None] = None
        signs["c", [], None] = None
        self.assertIs(signs.set_row("c", ["d", "a", "b"]), None)
        signs.set_row(node="b", row=("c", "a"))
        self.assertEqual(signs, Signs(KITE, {"b": ["c", "a"], "c": ["d", "a", "b"]}))

    def test_set_row_refuses(self):
        signs = Signs(KITE)
        for value in NOT_NAMES + ["x"]:
            self.refused(UnknownNode, {"value": value}, lambda: signs.set_row(value, 1))
        for row in NOT_LISTS + [[], ["a"], ["a", "a"], ["a", "c", "a"], ["a", "d"], ["a", True], [["a"], "c"], "ac"]:
            self.refused(InvalidRow, {"node": "b"}, lambda: signs.set_row("b", row))
        self.assertEqual(signs, Signs(KITE))

    def test_set_row_copies(self):
        signs, row = Signs(KITE), ["c", "a"]
        signs.set_row("b", row)
        row.reverse()
        self.assertEqual(signs, Signs(KITE, {"b": ["c", "a"]}))


class TurnsTest(Refusals):
    def test_rows_turn_everywhere(self):
        signs = Signs(WHEEL)
        for closed in parts(WHEEL.neighbours("hub")):
            if len(closed) <= 6:
                self.assertIs(signs.turns("hub", closed), True)
        self.assertIs(Signs(Net.path("b", "a", "c")).turns(node="a", closed=[]), True)

    def test_every_way_to_go_on(self):
        net = Net.of(("m", "a"), ("m", "b"), ("m", "c"), ("m", "d"))
        signs = Signs(net)
        for closed in ([], ["c"], ["b", "a"]):
            left = [name for name in "abcd" if name not in closed]
            cycles = [dict(zip((left[0], *rest), (*rest, left[0]))) for rest in itertools.permutations(left[1:])]
            for going in itertools.product([None, *left], repeat=len(left)):
                for name, goes in zip(left, going):
                    signs["m", closed, name] = goes
                self.assertIs(signs.turns("m", closed), dict(zip(left, going)) in cycles, going)

    def test_refusals(self):
        signs = Signs(KITE)
        for value in NOT_NAMES + ["x"]:
            self.refused(UnknownNode, {"value": value}, lambda: signs.turns(value, 1))
        wrong = [["b", "b"], ["a"], ["x"], [1], ["b", "c"], ["c", "d", "b"], ["d", "b"], [None], [["b"]]]
        for closed in NOT_LISTS + wrong:
            self.refused(InvalidEntry, {"value": closed}, lambda: signs.turns("a", closed))
        for closed in (["a"], ("c",), ["a", "c"]):
            self.refused(InvalidEntry, {"value": closed}, lambda: signs.turns("b", closed))
        self.refused(InvalidEntry, {"value": []}, lambda: Signs(Net(["a"])).turns("a", []))


class CopiesTest(Refusals):
    def test_copy(self):
        signs = Signs(KITE, ROWS)
        signs["a", [], None] = None
        other = signs.copy()
        self.assertIsInstance(other, Signs)
        self.assertEqual([other, told(other), other.net], [signs, told(signs), KITE])
        other["a", ["b"], "c"] = None
        self.assertEqual(signs["a", ["b"], "c"], "d")
        signs["a", ["b"], "d"] = None
        self.assertEqual(other["a", ["b"], "d"], "c")
        signs.set_row("b", ["a", "c"])
        self.assertEqual(other["b", [], None], "c")
        self.assertNotEqual(signs, other)

    def test_differences(self):
        one, other = Signs(KITE), Signs(KITE, {"b": ["c", "a"]})
        self.assertEqual(one.differences(one), [])
        self.assertEqual(one.differences(other=other), [("b", (), None)])
        one["d", ["a"], "c"] = None
        one["d", ["a"], None] = None
        one["a", [], "b"] = None
        one["a", ["b", "c"], "d"] = None
        one["a", ["d"], "b"] = None
        one["a", ["c"], "b"] = None
        found = [("a", (), "b"), ("a", ("c",), "b"), ("a", ("d",), "b"), ("a", ("b", "c"), "d"),
                 ("b", (), None), ("d", ("a",), None), ("d", ("a",), "c")]
        self.assertEqual(one.differences(other), found)
        self.assertEqual(other.differences(one), found)

    def test_differences_refuse(self):
        signs = Signs(KITE)
        for value in NOT_SIGNS:
            self.refused(InvalidSigns, {"value": value}, lambda: signs.differences(value))
        less = KITE - ("a", "c")
        self.refused(OtherNet, {"one": KITE, "other": less}, lambda: signs.differences(Signs(less)))

    def test_equal(self):
        self.assertEqual(Signs(KITE), Signs(Net(KITE.nodes(), KITE.links())))
        self.assertNotEqual(Signs(KITE), Signs(KITE - ("a", "c")))
        self.assertNotEqual(Signs(Net(["a"])), Signs(Net(["b"])))
        for value in NOT_SIGNS + [told(Signs(KITE))]:
            self.assertIs(Signs(KITE) == value, False)
            self.assertIs(Signs(KITE) != value, True)


if __name__ == "__main__":
    unittest.main()
