import itertools
import unittest

from bundled import GROUPS, INNER, NET, TIES, drawn_bundle, some_bundles
from drawn import Chance, drawn_signs
from oracles import closings, drawn_rows
from outsigns.bundles import Bundle
from outsigns.carrying import brought_back, carried, carried_rows
from outsigns.closings import Closing
from outsigns.counting import drawings
from outsigns.errors import InvalidBundle, InvalidClosing, InvalidRows, InvalidSigns, OtherNet, TooMany, UnknownLink
from outsigns.faults import is_good
from outsigns.nets import Net
from outsigns.rows import Rows
from outsigns.signs import Signs
from outsigns.walking import met
from refusals import Refusals
from shapes import glued
from values import NOT_CLOSINGS, NOT_SIGNS, many_names, widest_net

SOME = Bundle(NET, GROUPS, INNER, TIES)
NOT_BUNDLES = [None, True, 0, "", [], (), {}, (GROUPS, INNER, TIES), NET, Closing(), Signs(NET), Rows(NET), Bundle]


def made_bundles(many):
    """Bundles of nets in which no node has more than eight neighbours."""
    made = [Bundle(*parts) for parts in some_bundles(many)]
    return [bundle for bundle in made if max(len(bundle.net.neighbours(node)) for node in bundle.net.nodes()) <= 8]


def plain_back(bundle, closing):
    """A closing brought back, by [71]."""
    return Closing([link for link in bundle.net.links() if link not in bundle.inner() and not any(
        bundle.tie(*small) == link and small not in closing for small in bundle.small.links())])


def plain_going(signs, bundle, name, closed, arriving):
    """A carried entry by [72], by following the signs one by one."""
    closing = plain_back(bundle, Closing([(name, other) for other in closed]))
    group = [group for group in bundle.groups() if group[0] == name][0]
    here, before = name, None
    if arriving is not None:
        tie = bundle.tie(name, arriving)
        here, before = tie if tie[0] in group else tie[::-1]
    seen = []
    while (here, before) not in seen:
        if before is not None:
            seen.append((here, before))
        going = signs[here, closing.at(here), before]
        if going is None:
            return None
        if going not in group:
            return bundle.group_of(going)
        here, before = going, here
    return None


def plain_row(rows, bundle, name):
    """A carried row by [73], by going out and coming back by turns."""
    group = [group for group in bundle.groups() if group[0] == name][0]
    kept = {node: [other for other in rows[node] if tuple(sorted((node, other))) in bundle.inner() + bundle.ties()]
            for node in group}
    found, here, before = [], name, None
    for _ in range(4 * bundle.net.size + 2):
        if not kept[here]:
            break
        row = kept[here]
        going = row[0] if before is None else row[(row.index(before) + 1) % len(row)]
        if going in group:
            here, before = going, here
        else:
            found.append(bundle.group_of(going))
            before = going
    return tuple(dict.fromkeys(found))


def joined_groups(many, ties):
    """A net of a group that is a path with so many nodes, and so many single nodes that are tied to it by turns."""
    inside, outside = [f"a{name}" for name in many_names(many)], [f"b{name}" for name in many_names(ties)]
    links = [(inside[at], inside[at + 1]) for at in range(many - 1)]
    tied = [(inside[at % many], name) for at, name in enumerate(outside)]
    return Bundle(Net.of(*links, *tied) | Net(inside), [inside[::-1], *[[name] for name in outside]], links, tied)


class BackTest(Refusals):
    def test_some_bundles(self):
        for seed, parts in enumerate(some_bundles(80)):
            chance, bundle = Chance(seed), Bundle(*parts)
            links = bundle.small.links()
            some = [Closing(), Closing(links), *[Closing(chance.shuffled(links)[:chance.below(len(links) + 1)])
                                                 for _ in range(5)]]
            for closing in some:
                found = brought_back(bundle, closing)
                self.assertIs(type(found), Closing)
                self.assertEqual(found, plain_back(bundle, closing))
                self.assertEqual(brought_back(closing=closing, bundle=bundle), found)

    def test_single(self):
        for net in (NET, widest_net(), Net(["a"])):
            for many in range(0, net.size + 1, 7):
                closing = Closing(net.links()[:many])
                self.assertEqual(brought_back(Bundle.single(net), closing), closing)

    def test_example(self):
        net = Net.full("a", "b", "c", "d") | Net.path("d", "e", "x")
        bundle = Bundle(net, [["e", "d"], ["a"], ["b"]], [("d", "e")], [("a", "d"), ("b", "a"), ("b", "d")])
        self.assertEqual(brought_back(bundle, Closing.of(("a", "e"))).links(),
                         [("a", "c"), ("a", "d"), ("b", "c"), ("c", "d"), ("e", "x")])

    def test_refusals(self):
        for value in NOT_BUNDLES:
            self.refused(InvalidBundle, {"value": value}, lambda: brought_back(value, None))
        for value in NOT_CLOSINGS:
            self.refused(InvalidClosing, {"value": value}, lambda: brought_back(SOME, value))
        closing = Closing.of(("b", "f"), ("y", "x"), ("b", "d"), ("c", "b"))
        self.refused(UnknownLink, {"value": ("b", "d")}, lambda: brought_back(SOME, closing))
        self.refused(UnknownLink, {"value": ("a", "d")}, lambda: brought_back(SOME, Closing.of(("d", "a"))))


class CarriedTest(Refusals):
    def check(self, signs, bundle, often=1):
        found = carried(signs, bundle)
        self.assertIs(type(found), Signs)
        self.assertEqual(found.net, bundle.small)
        at = 0
        for name in bundle.small.nodes():
            for closed, arriving, going in found.entries(name):
                at += 1
                if at % often == 0:
                    self.assertEqual(going, plain_going(signs, bundle, name, closed, arriving), (name, closed, arriving))
        return found

    def test_each_entry(self):
        stays = 0
        for seed, bundle in enumerate(made_bundles(60)):
            signs = drawn_signs(Chance(seed), bundle.net)
            found = self.check(signs, bundle)
            stays += sum(going is None for name in bundle.small.nodes() for _, _, going in found.entries(name))
            self.assertEqual(carried(bundle=bundle, signs=signs), found)
        self.assertGreater(stays, 200)

    def test_who_comes_round_stays(self):
        net = Net.path("a", "b", "c") + ("a", "c") | Net.path("b", "x")
        bundle = Bundle(net, [["a", "b", "c"], ["x"]], [("a", "b"), ("b", "c")], [("b", "x")])
        signs = Signs(net)
        self.assertEqual(carried(signs, bundle)["a", [], None], "x")
        signs["b", [], "a"] = "a"
        self.assertIs(carried(signs, bundle)["a", [], None], None)
        self.assertEqual(carried(signs, bundle)["a", [], "x"], plain_going(signs, bundle, "a", (), "x"))
        signs["a", ["c"], "b"] = None
        self.check(signs, bundle)

    def test_many_ties(self):
        for many, ties in ((1, 8), (2, 8), (5, 8), (50, 8), (3, 0), (30, 1)):
            bundle = joined_groups(many, ties)
            self.check(Signs(bundle.net), bundle, 17)
            self.check(drawn_signs(Chance(many), bundle.net), bundle, 17)
        bundle = joined_groups(3, 9)
        signs = Signs(bundle.net)
        self.refused(TooMany, {"what": "neighbours", "limit": 8}, lambda: carried(signs, bundle))
        other = Signs(bundle.net + ("baa", "bab"))
        self.refused(OtherNet, {"one": other.net, "other": bundle.net}, lambda: carried(other, bundle))
        self.assertEqual(carried_rows(Rows(bundle.net), bundle).net, bundle.small)

    def test_single(self):
        for seed in range(10):
            bundle = made_bundles(12)[seed]
            signs = drawn_signs(Chance(seed), bundle.net)
            found = carried(signs, Bundle.single(bundle.net))
            self.assertEqual([found, found.differences(signs)], [signs, []])

    def test_independent(self):
        bundle = joined_groups(2, 2)
        signs = Signs(bundle.net)
        found, kept = carried(signs, bundle), carried(signs, bundle)
        other = signs.copy()
        for node in signs.net.nodes():
            signs.set_row(node, signs.net.neighbours(node)[::-1])
            for closed, arriving, _ in list(signs.entries(node)):
                signs[node, closed, arriving] = None
        self.assertEqual(found, kept)
        for name in found.net.nodes():
            for closed, arriving, _ in list(found.entries(name)):
                found[name, closed, arriving] = None
        self.assertEqual(carried(other, bundle), kept)
        self.assertEqual(other, Signs(bundle.net))

    def test_walks_meet_the_same_groups(self):
        for seed, bundle in enumerate(made_bundles(25)):
            if bundle.small.size > 7:
                continue
            signs = drawn_signs(Chance(seed), bundle.net)
            small = carried(signs, bundle)
            for closing in closings(bundle.small):
                for name in bundle.small.nodes():
                    nodes = met(signs, brought_back(bundle, closing), name)
                    groups = sorted({bundle.group_of(node) for node in nodes} - {None})
                    self.assertEqual(met(small, closing, name), groups)

    def test_one_after_another(self):
        for seed, one in enumerate(made_bundles(40)):
            other = Bundle(*drawn_bundle(Chance(seed + 300), one.small))
            signs = drawn_signs(Chance(seed), one.net)
            if max(len(one.small.neighbours(name)) for name in one.small.nodes()) <= 8:
                self.assertEqual(carried(carried(signs, one), other), carried(signs, one >> other))
            rows = drawn_rows(Chance(seed), one.net)
            self.assertEqual(carried_rows(carried_rows(rows, one), other), carried_rows(rows, one >> other))

    def test_good_signs_are_carried_to_good_signs(self):
        for seed in range(15):
            chance = Chance(seed)
            net = glued(chance, many_names(7), 5)
            bundle = Bundle(*drawn_bundle(chance, net))
            for rows in drawings(net, 0, 3):
                found = carried_rows(rows, bundle)
                self.assertTrue(found.is_drawing)
                if bundle.small.size <= 6:
                    self.assertTrue(is_good(carried(rows.signs(), bundle)))

    def test_refusals(self):
        for value in NOT_SIGNS:
            self.refused(InvalidSigns, {"value": value}, lambda: carried(value, None))
        for value in NOT_BUNDLES:
            self.refused(InvalidBundle, {"value": value}, lambda: carried(Signs(NET), value))
        other = Signs(NET + ("x", "y"))
        self.refused(OtherNet, {"one": other.net, "other": NET}, lambda: carried(other, SOME))


class CarriedRowsTest(Refusals):
    def test_each_row(self):
        for seed, parts in enumerate(some_bundles(100)):
            bundle = Bundle(*parts)
            rows = drawn_rows(Chance(seed), bundle.net)
            found = carried_rows(rows, bundle)
            self.assertIs(type(found), Rows)
            self.assertEqual(found.net, bundle.small)
            self.assertEqual(list(found.as_dict()), bundle.small.nodes())
            for name in bundle.small.nodes():
                self.assertEqual(found[name], plain_row(rows, bundle, name))
            self.assertEqual(carried_rows(bundle=bundle, rows=rows), found)
            self.assertEqual(carried_rows(rows, Bundle.single(bundle.net)), rows)

    def test_their_signs(self):
        for seed, bundle in enumerate(made_bundles(60)):
            rows = drawn_rows(Chance(seed), bundle.net)
            if max(len(bundle.small.neighbours(name)) for name in bundle.small.nodes()) <= 8:
                self.assertEqual(carried_rows(rows, bundle).signs(), carried(rows.signs(), bundle))

    def test_groups_without_ties(self):
        net = Net.path("a", "b", "c") | Net(["x"])
        bundle = Bundle(net, [["b", "a", "c"], ["x"]], [("a", "b"), ("b", "c")], [])
        self.assertEqual(carried_rows(Rows(net), bundle).as_dict(), {"b": (), "x": ()})

    def test_wide_groups(self):
        for many, ties in ((1, 40), (20, 30), (58, 2), (40, 20)):
            bundle = joined_groups(many, ties)
            rows = drawn_rows(Chance(many), bundle.net)
            found = carried_rows(rows, bundle)
            for name in bundle.small.nodes():
                self.assertEqual(found[name], plain_row(rows, bundle, name))

    def test_example(self):
        rows = Rows(NET, {"b": ["e", "c", "a"], "a": ["y", "f", "d", "b"], "d": ["c", "e", "a"]})
        found = carried_rows(rows, SOME)
        self.assertEqual(found.as_dict(), {"b": ("c", "f"), "c": ("b", "f"), "f": ("c", "b")})

    def test_refusals(self):
        for value in [None, 0, (), {}, NET, Signs(NET), SOME, Rows]:
            self.refused(InvalidRows, {"value": value}, lambda: carried_rows(value, None))
        for value in NOT_BUNDLES:
            self.refused(InvalidBundle, {"value": value}, lambda: carried_rows(Rows(NET), value))
        other = Rows(NET + ("x", "y"))
        self.refused(OtherNet, {"one": other.net, "other": NET}, lambda: carried_rows(other, SOME))


if __name__ == "__main__":
    unittest.main()
