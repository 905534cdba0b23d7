import itertools
import unittest

from drawn import Chance, drawn_net
from oracles import all_rows, is_plainly_drawn, opened, plain_kinds, plain_rounds
from outsigns.closings import Closing, open_net
from outsigns.drawings import drawing
from outsigns.errors import InvalidClosing, InvalidNet, InvalidRow, TooMany, UnknownLink, UnknownNode
from outsigns.nets import Net
from outsigns.rows import Rows
from outsigns.signs import Signs
from refusals import Refusals
from shapes import glued, ladder, star
from values import NOT_CLOSINGS, NOT_LINKS, NOT_LISTS, NOT_NAMES, NOT_NETS, many_names, next_in_row, widest_net

KITE = Net.ring("a", "b", "c", "d") + ("a", "c")
GIVEN = {"a": ("d", "b", "c"), "b": ("c", "a"), "c": ("b", "d", "a"), "d": ("a", "c")}


def told(rows):
    """All that rows tell of themselves."""
    nodes = rows.net.nodes()
    return [rows.net, rows.as_dict(), [rows[node] for node in nodes], rows.rounds(), rows.is_flat, rows.is_drawing,
            [rows.tour(node) for node in nodes], repr(rows)]


def some_rows():
    """Rows of many nets, drawings among them."""
    found = [Rows(Net(["a"])), Rows(Net(["b", "a"])), Rows(Net.path("a", "b")), Rows(KITE), Rows(KITE, GIVEN)]
    found += [Rows(star(9)), Rows(star(12), {"hub": many_names(12)[::-1]}), Rows(widest_net()), drawing(ladder())]
    for seed in range(40):
        chance = Chance(seed)
        net = drawn_net(chance, 14)
        found.append(Rows(net, {node: chance.shuffled(net.neighbours(node)) for node in net.nodes()
                                if chance.below(3)}))
        found.append(drawing(glued(chance, many_names(4 + chance.below(12)), 5)))
    return found


class MadeTest(Refusals):
    def test_ways_to_make_them(self):
        rows = Rows(KITE, GIVEN)
        self.assertEqual(rows.as_dict(), GIVEN)
        self.assertEqual([rows[node] for node in "abcd"], [GIVEN[node] for node in "abcd"])
        self.assertEqual(Rows(net=KITE, rows={node: list(GIVEN[node]) for node in "dbca"}), rows)
        self.assertEqual(list(Rows(KITE, {node: GIVEN[node] for node in "dbca"}).as_dict()), list("abcd"))
        plain = {node: tuple(KITE.neighbours(node)) for node in "abcd"}
        for given in (None, {}, plain, {"b": ["a", "c"]}):
            self.assertEqual(Rows(KITE, given).as_dict(), plain)
        self.assertEqual(Rows(KITE, {"b": ["c", "a"]}).as_dict(), {**plain, "b": ("c", "a")})
        self.assertEqual(Rows(Net(["a"])).as_dict(), {"a": ()})

    def test_any_number_of_neighbours(self):
        names = many_names(30)
        rows = Rows(star(30), {"hub": names[::-1]})
        self.assertEqual(rows["hub"], tuple(names[::-1]))
        self.assertEqual((~rows)["hub"], tuple(names))
        self.assertEqual(Rows(star(30))["hub"], tuple(names))

    def test_net_and_values(self):
        self.assertEqual(Rows(KITE).net, KITE)
        self.assertEqual([type(row) for row in Rows(KITE, GIVEN).as_dict().values()], [tuple] * 4)
        self.assertIs(type(Rows(KITE, {"b": ["c", "a"]})["b"]), tuple)

    def test_what_was_passed_or_returned_can_be_changed(self):
        given = {"a": ["d", "b", "c"], "b": ["c", "a"]}
        rows = Rows(KITE, given)
        before = told(rows)
        given["a"].reverse()
        given["c"] = ["b", "d", "a"]
        del given["b"]
        rows.as_dict()["a"] = ()
        rows.rounds()[0].clear()
        rows.rounds().clear()
        rows.tour("a").clear()
        signs = rows.signs()
        signs.set_row("a", ["b", "c", "d"])
        signs["b", [], "a"] = None
        self.assertEqual(told(rows), before)
        self.assertEqual(rows.signs(), Signs(KITE, rows.as_dict()))

    def test_repr(self):
        self.assertEqual(repr(Rows(Net.path("b", "a"))), "Rows({'a': ('b',), 'b': ('a',)})")
        for rows in some_rows():
            self.assertEqual(repr(rows), f"Rows({rows.as_dict()!r})")

    def test_equal(self):
        self.assertEqual(Rows(KITE, GIVEN), Rows(Net(KITE.nodes(), KITE.links()), dict(GIVEN)))
        self.assertNotEqual(Rows(KITE, GIVEN), Rows(KITE))
        self.assertNotEqual(Rows(Net(["a", "b"])), Rows(Net(["a"])))
        self.assertNotEqual(Rows(Net(["a"])), Rows(Net(["b"])))
        for value in NOT_NETS + [KITE, GIVEN, repr(Rows(KITE)), Signs(KITE), None]:
            self.assertIs(Rows(KITE) == value, False)
            self.assertIs(Rows(KITE) != value, True)

    def test_not_iterated_over(self):
        with self.assertRaises(TypeError):
            iter(Rows(KITE))
        with self.assertRaises(TypeError):
            list(Rows(KITE))


class RefusalsTest(Refusals):
    def test_wrong_nets_and_dicts(self):
        for value in NOT_NETS + [Rows(KITE)]:
            self.refused(InvalidNet, {"value": value}, lambda: Rows(value, 1))
        for value in [True, False, 0, 1, "", "a", [], [("a", ["b"])], (), {"a"}, KITE, Closing(), Rows(KITE)]:
            self.refused(InvalidRow, {"node": None}, lambda: Rows(KITE, value))
        for key in [None, True, 1, "", "x", "A", ("a", "b"), b"a", ("a",)]:
            self.refused(InvalidRow, {"node": None}, lambda: Rows(KITE, {"a": 1, key: ["b"]}))

    def test_wrong_rows(self):
        wrong = [["a"], ["c"], ["a", "c", "a"], ["a", "a"], ["a", "d"], ["a", "c", "d"], ["a", "C"], ["a", 1], "ac",
                 ["a", "b"], ["a", None], ["a", ["c"]], {"a": 1, "c": 1}, {"a", "c"}, [("a", "c")]]
        for row in NOT_LISTS + [[], ()] + wrong:
            self.refused(InvalidRow, {"node": "b"}, lambda: Rows(KITE, {"d": 1, "b": row, "a": ["b", "c", "d"]}))
        self.refused(InvalidRow, {"node": "a"}, lambda: Rows(KITE, {"c": 1, "b": 1, "a": ["b", "c"]}))
        self.refused(InvalidRow, {"node": "hub"}, lambda: Rows(star(9), {"hub": many_names(8)}))

    def test_nodes_and_links(self):
        rows = Rows(KITE, GIVEN)
        for value in NOT_NAMES + ["x", ("a", "b"), slice(1), 0]:
            self.refused(UnknownNode, {"value": value}, lambda: rows[value])
            self.refused(UnknownNode, {"value": value}, lambda: rows.tour(value))
        for value in NOT_LINKS + [("b", "d"), ("a", "x"), ("x", "y"), KITE, rows]:
            self.refused(UnknownLink, {"value": value}, lambda: rows - value)
        for value in NOT_CLOSINGS + [rows]:
            self.refused(InvalidClosing, {"value": value}, lambda: rows.opened(value))
        closing = Closing.of(("a", "b"), ("x", "y"), ("b", "d"))
        self.refused(UnknownLink, {"value": ("b", "d")}, lambda: rows.opened(closing))
        self.assertEqual(rows.as_dict(), GIVEN)

    def test_signs(self):
        for rows in some_rows():
            if max(len(row) for row in rows.as_dict().values()) > 8:
                self.refused(TooMany, {"what": "neighbours", "limit": 8}, rows.signs)
            else:
                self.assertEqual(rows.signs(), Signs(rows.net, rows.as_dict()))
                self.assertIsInstance(rows.signs(), Signs)


class OtherRowsTest(Refusals):
    def same(self, found, net, rows):
        """Look whether rows tell the same as rows that are made anew."""
        self.assertIsInstance(found, Rows)
        self.assertEqual(told(found), told(Rows(net, rows)))
        self.assertEqual(found, Rows(net, rows))

    def test_turned(self):
        for rows in some_rows():
            before = told(rows)
            self.same(~rows, rows.net, {node: row[::-1] for node, row in rows.as_dict().items()})
            self.assertEqual(~~rows, rows)
            self.assertEqual(told(rows), before)
            self.assertEqual([(~rows).is_flat, (~rows).is_drawing], [rows.is_flat, rows.is_drawing])

    def test_without_a_link(self):
        for rows in some_rows():
            before = told(rows)
            for link in rows.net.links()[::5]:
                left = opened(rows.as_dict(), Closing.of(link))
                self.same(rows - link, rows.net - link, left)
                self.assertEqual(rows - link[::-1], rows - link)
            self.assertEqual(told(rows), before)

    def test_opened(self):
        for seed, rows in enumerate(some_rows()):
            chance, before = Chance(seed), told(rows)
            for many in (0, 2, 3, 1):
                closing = Closing([link for link in rows.net.links() if many and chance.below(many) == 0])
                left = opened(rows.as_dict(), closing)
                self.same(rows.opened(closing), open_net(rows.net, closing), left)
            self.assertEqual(told(rows), before)
        self.assertEqual(Rows(KITE).opened(closing=Closing.all_of(KITE)), Rows(Net(list("abcd"))))


class RoundsTest(Refusals):
    def check(self, rows):
        given, net = rows.as_dict(), rows.net
        self.assertEqual(rows.rounds(), plain_rounds(given))
        kinds = [plain_kinds(net, given, piece) for piece in net.pieces()]
        self.assertIs(rows.is_flat, all(flat for flat, _ in kinds))
        self.assertIs(rows.is_drawing, all(drawn for _, drawn in kinds))

    def test_rounds_and_kinds(self):
        for rows in some_rows():
            self.check(rows)

    def test_all_rows_of_small_nets(self):
        seen = []
        nets = [KITE, Net.full("a", "b", "c", "d"), Net.ring("a", "b", "c") | Net.path("a", "d", "e"), Net.full(*"abc"),
                Net.path("c", "a", "b") | Net.path("d", "e"), star(4), Net.of(*[(x, y) for x in "ab" for y in "cde"])]
        for net in nets:
            for given in all_rows(net):
                rows = Rows(net, given)
                self.check(rows)
                seen.append((rows.is_flat, rows.is_drawing))
        for kind in [(True, True), (True, False), (False, False)]:
            self.assertGreater(seen.count(kind), 10)

    def test_flat_and_no_drawing(self):
        rows = Rows(Net.full("a", "b", "c", "d"), {"a": ["b", "c", "d"], "b": ["a", "d", "c"], "c": ["a", "b", "d"],
                                                   "d": ["a", "c", "b"]})
        self.assertEqual([rows.is_flat, rows.is_drawing, len(rows.rounds())], [True, False, 4])
        rows = Rows(Net.ring("a", "b", "c"), {"a": ["c", "b"]})
        self.assertEqual([rows.is_flat, rows.is_drawing, len(rows.rounds())], [True, False, 2])
        both = Rows(Net.ring("a", "b", "c") | Net.ring("x", "y", "z"), {"c": ["b", "a"], "b": ["c", "a"], "z": ["y", "x"]})
        self.assertEqual([both.is_flat, both.is_drawing], [True, False])

    def test_each_dart_once(self):
        for rows in some_rows():
            darts = [dart for found in rows.rounds() for dart in found]
            links = rows.net.links()
            self.assertEqual(sorted(darts), sorted(links + [link[::-1] for link in links]))
            self.assertTrue(all(min(found) == found[0] for found in rows.rounds()))
            self.assertEqual(rows.rounds(), sorted(rows.rounds()))

    def test_without_links(self):
        rows = Rows(Net(["a", "b"]))
        self.assertEqual([rows.rounds(), rows.is_flat, rows.is_drawing, rows.tour("b")], [[], True, True, ["b"]])


class TourTest(Refusals):
    def test_any_rows(self):
        for rows in some_rows():
            for node in rows.net.nodes():
                row = rows[node]
                found = rows.tour(node=node)
                if not row:
                    self.assertEqual(found, [node])
                    continue
                darts = [dart for dart in rows.rounds() if (row[-1], node) in dart][0]
                self.assertEqual(len(found), len(darts))
                self.assertEqual(found[:2], [node, row[0]])
                self.assertEqual(found[-1], row[-1])
                for before, here, behind in zip([found[-1], *found], found, [*found[1:], found[0]]):
                    self.assertEqual(next_in_row(rows[here], [], before), behind)

    def test_drawings_have_one_tour(self):
        for seed in range(30):
            rows = drawing(glued(Chance(seed), many_names(20), 6))
            for piece in rows.net.pieces():
                first = rows.tour(piece[0])
                self.assertEqual(sorted(set(first)), piece)
                for node in piece:
                    at = first.index(node)
                    turns = [first[at:] + first[:at] for at in range(len(first)) if first[at] == node]
                    self.assertIn(rows.tour(node), turns, at)

    def test_length(self):
        net = Net.ring("a", "b", "c", "d") | Net.path("a", "x", "y") | Net.ring("y", "v", "w")
        rows = drawing(net)
        self.assertEqual({len(rows.tour(node)) for node in net.nodes()}, {4 + 2 + 2 + 3})
        self.assertEqual(drawing(Net.path("a", "b")).tour("b"), ["b", "a"])

    def test_a_piece_need_not_be_met(self):
        rows = Rows(Net.full("a", "b", "c", "d"))
        self.assertEqual([len(rows.rounds()), rows.is_flat], [2, False])
        tours = [rows.tour(node) for node in "abcd"]
        self.assertTrue(all(tour[0] == node for tour, node in zip(tours, "abcd")))
        self.assertTrue(is_plainly_drawn(KITE, drawing(KITE).as_dict()))
        self.assertEqual(list(itertools.chain(drawing(KITE).tour("c"))), ["c", "d", "a", "b"])


if __name__ == "__main__":
    unittest.main()
