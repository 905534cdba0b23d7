import itertools
import unittest

from outsigns.closings import Closing, Site, open_net
from outsigns.errors import InvalidClosing, InvalidLinks, InvalidName, InvalidNet, LinkTaken, TooMany, UnknownLink
from outsigns.nets import Net
from refusals import Refusals
from values import NOT_CLOSINGS, NOT_LINKS, NOT_LISTS, NOT_NAMES, NOT_NETS, many_names, widest_net

SOME = Closing([("d", "a"), ("c", "d"), ("aa", "a")])
KITE = Net.ring("a", "b", "c", "d") + ("a", "c")


def plus(site, link):
    site += link


def minus(site, link):
    site -= link


def union(site, closing):
    site |= closing


def assign(site, closing):
    site.closing = closing


class ClosingTest(Refusals):
    def test_links(self):
        for kind in (list, tuple):
            for pairs in itertools.permutations([("b", "a"), ("b", "c"), ("aa", "b")]):
                closing = Closing(kind(pairs))
                self.assertEqual(closing.links(), [("a", "b"), ("aa", "b"), ("b", "c")])
                self.assertEqual(closing, Closing.of(*pairs))
                self.assertEqual(closing, Closing(links=pairs))
        self.assertEqual([Closing().links(), Closing.of().links(), Closing([]).links()], [[], [], []])

    def test_copies(self):
        links = [("b", "a")]
        closing = Closing(links)
        links.append(("b", "c"))
        closing.links().clear()
        closing.at("a").clear()
        self.assertEqual([closing.links(), closing.at("a")], [[("a", "b")], ["b"]])

    def test_wrong_links(self):
        for value in NOT_LISTS:
            self.refused(InvalidLinks, {"position": None}, lambda: Closing(value))
        for value in NOT_LINKS + [("a", "b"), ("b", "a")]:
            self.refused(InvalidLinks, {"position": 1}, lambda: Closing([("b", "a"), value, 1]))
            self.refused(InvalidLinks, {"position": 1}, lambda: Closing.of(("b", "a"), value, 1))
        self.refused(InvalidLinks, {"position": 0}, lambda: Closing.of([("a", "b")]))

    def test_limit(self):
        links = list(itertools.combinations(many_names(17), 2))
        self.assertEqual([len(Closing(links[:120])), len(Closing.of(*links[:120]))], [120, 120])
        self.refused(TooMany, {"what": "links", "limit": 120}, lambda: Closing(links[:121]))
        self.refused(TooMany, {"what": "links", "limit": 120}, lambda: Closing.of(*links[:121]))
        self.refused(TooMany, {"what": "links", "limit": 120}, lambda: Closing(links[:100]) | Closing(links[50:121]))
        self.assertEqual(len(Closing(links[:100]) | Closing(links[50:120])), 120)
        self.refused(InvalidLinks, {"position": 130}, lambda: Closing(links[:130] + [1]))

    def test_all_of(self):
        self.assertEqual(Closing.all_of(KITE).links(), KITE.links())
        self.assertEqual(Closing.all_of(net=Net(["a"])), Closing())
        self.assertEqual(len(Closing.all_of(widest_net())), 120)
        for value in NOT_NETS:
            self.refused(InvalidNet, {"value": value}, lambda: Closing.all_of(value))

    def test_at(self):
        self.assertEqual(SOME.at("a"), ["aa", "d"])
        self.assertEqual(SOME.at(node="d"), ["a", "c"])
        self.assertEqual([SOME.at("x"), Closing().at("a")], [[], []])
        self.assertEqual(Closing.of(("m", "z"), ("m", "a"), ("n", "m"), ("m", "aa")).at("m"), ["a", "aa", "n", "z"])
        for value in NOT_NAMES:
            self.refused(InvalidName, {"value": value}, lambda: SOME.at(value))

    def test_operators(self):
        one, other = Closing.of(("a", "b"), ("c", "b")), Closing.of(("b", "c"), ("x", "y"))
        self.assertEqual(one | other, Closing.of(("a", "b"), ("b", "c"), ("x", "y")))
        self.assertEqual(one & other, Closing.of(("b", "c")))
        self.assertEqual(one - other, Closing.of(("a", "b")))
        self.assertEqual(other - one, Closing.of(("x", "y")))
        self.assertEqual([one - one, one & Closing(), one | Closing()], [Closing(), Closing(), one])
        self.assertEqual([one.links(), other.links()], [[("a", "b"), ("b", "c")], [("b", "c"), ("x", "y")]])
        for value in NOT_CLOSINGS:
            self.refused(InvalidClosing, {"value": value}, lambda: one | value)
            self.refused(InvalidClosing, {"value": value}, lambda: one & value)
            self.refused(InvalidClosing, {"value": value}, lambda: one - value)

    def test_contains(self):
        for link in [("a", "d"), ("d", "a"), ("c", "d"), ("a", "aa"), ("aa", "a")]:
            self.assertIs(link in SOME, True)
        for value in [*NOT_LINKS, ("a", "c"), ("x", "y"), "a", *NOT_NAMES]:
            self.assertIs(value in SOME, False, value)

    def test_texts(self):
        self.assertEqual([str(SOME), repr(SOME)], ["a-aa a-d c-d", "Closing([('a', 'aa'), ('a', 'd'), ('c', 'd')])"])
        self.assertEqual([str(Closing()), repr(Closing())], ["-", "Closing([])"])
        self.assertEqual([str(Closing.of(("b", "a"))), repr(Closing.of(("b", "a")))], ["a-b", "Closing([('a', 'b')])"])

    def test_equal(self):
        self.assertEqual(SOME, Closing(SOME.links()[::-1]))
        self.assertNotEqual(SOME, Closing(SOME.links()[1:]))
        for value in NOT_CLOSINGS + [str(SOME), SOME.links(), None]:
            self.assertIs(SOME == value, False)
            self.assertIs(SOME != value, True)

    def test_order(self):
        links = list(itertools.combinations(["a", "aa", "b", "c"], 2))
        parts = [list(part) for many in range(4) for part in itertools.combinations(links, many)]
        ordered = [Closing(part) for part in sorted(parts, key=lambda part: (len(part), part))]
        for at, one in enumerate(ordered):
            for by, other in enumerate(ordered):
                found = [one < other, one <= other, one > other, one >= other, one == other, one != other]
                self.assertEqual(found, [at < by, at <= by, at > by, at >= by, at == by, at != by])

    def test_only_closings_are_compared(self):
        for value in NOT_CLOSINGS:
            for compare in (lambda: SOME < value, lambda: SOME <= value, lambda: SOME > value, lambda: SOME >= value):
                with self.assertRaises(TypeError):
                    compare()


class OpenNetTest(Refusals):
    def test_open_net(self):
        self.assertEqual(open_net(KITE, Closing()), KITE)
        self.assertEqual(open_net(KITE, Closing.of(("d", "a"), ("c", "d"))).pieces(), [["a", "b", "c"], ["d"]])
        self.assertEqual(open_net(net=KITE, closing=Closing.all_of(KITE)), Net(KITE.nodes()))
        net = widest_net()
        self.assertEqual(open_net(net, Closing.all_of(net) - Closing.of(("ab", "aa"))).links(), [("aa", "ab")])

    def test_refusals(self):
        for value in NOT_NETS:
            self.refused(InvalidNet, {"value": value}, lambda: open_net(value, None))
        for value in NOT_CLOSINGS:
            self.refused(InvalidClosing, {"value": value}, lambda: open_net(KITE, value))
        closing = Closing.of(("a", "b"), ("y", "x"), ("d", "b"), ("a", "z"))
        self.refused(UnknownLink, {"value": ("a", "z")}, lambda: open_net(KITE, closing))
        self.refused(UnknownLink, {"value": ("b", "d")}, lambda: open_net(KITE, closing - Closing.of(("a", "z"))))


class SiteTest(Refusals):
    def told(self, site):
        return [site.net, site.closing, len(site), site.open_net()]

    def test_step_by_step(self):
        site = Site(net=KITE)
        self.assertEqual(self.told(site), [KITE, Closing(), 0, KITE])
        site += ("b", "a")
        site += ("c", "d")
        self.assertEqual(self.told(site), [KITE, Closing.of(("a", "b"), ("c", "d")), 2, KITE - ("a", "b") - ("c", "d")])
        site -= ("b", "a")
        self.assertEqual(self.told(site), [KITE, Closing.of(("c", "d")), 1, KITE - ("c", "d")])
        site |= Closing.of(("d", "c"), ("a", "c"))
        self.assertEqual(site.closing, Closing.of(("a", "c"), ("c", "d")))
        site |= Closing()
        self.assertEqual(site.closing, Closing.of(("a", "c"), ("c", "d")))
        self.assertIs(site.set_closing(Closing.of(("a", "b"))), None)
        self.assertEqual(site.closing, Closing.of(("a", "b")))
        site.closing = Closing.of(("b", "c"))
        self.assertEqual(self.told(site), [KITE, Closing.of(("b", "c")), 1, KITE - ("b", "c")])
        site.set_closing(closing=Closing.all_of(KITE))
        self.assertEqual(self.told(site), [KITE, Closing.all_of(KITE), 5, Net(KITE.nodes())])
        for link in KITE.links():
            site -= link[::-1]
        self.assertEqual(self.told(site), [KITE, Closing(), 0, KITE])

    def test_a_closing_that_was_asked_stays(self):
        site = Site(KITE)
        first = site.closing
        site += ("a", "b")
        second = site.closing
        site -= ("a", "b")
        self.assertEqual([first, second], [Closing(), Closing.of(("a", "b"))])

    def test_contains(self):
        site = Site(KITE)
        site += ("b", "a")
        for link in [("a", "b"), ("b", "a")]:
            self.assertIs(link in site, True)
        for value in [*NOT_LINKS, ("a", "c"), ("b", "d"), "a", *NOT_NAMES]:
            if value != ("a", "b"):
                self.assertIs(value in site, False, value)

    def test_two_names_are_one_object(self):
        site = other = Site(KITE)
        site += ("a", "b")
        site |= Closing.of(("a", "c"))
        site -= ("b", "a")
        self.assertIs(site, other)
        self.assertEqual(other.closing, Closing.of(("a", "c")))

    def test_copy(self):
        site = Site(KITE)
        site += ("a", "b")
        other = site.copy()
        self.assertIsInstance(other, Site)
        self.assertEqual(self.told(site), self.told(other))
        other += ("a", "c")
        site -= ("a", "b")
        self.assertEqual([site.closing, other.closing], [Closing(), Closing.of(("a", "b"), ("a", "c"))])

    def test_wrong_net(self):
        for value in NOT_NETS:
            self.refused(InvalidNet, {"value": value}, lambda: Site(value))

    def test_refusals_change_nothing(self):
        site = Site(KITE)
        site += ("b", "a")
        wrong = Closing.of(("a", "b"), ("b", "c"), ("b", "d"), ("x", "y"))
        for value in NOT_LINKS + [("a", "x"), ("b", "d")]:
            self.refused(UnknownLink, {"value": value}, lambda: plus(site, value))
            self.refused(UnknownLink, {"value": value}, lambda: minus(site, value))
        self.refused(UnknownLink, {"value": ("a", "c")}, lambda: minus(site, ("a", "c")))
        for value in [("a", "b"), ("b", "a")]:
            self.refused(LinkTaken, {"value": value}, lambda: plus(site, value))
        for change in (union, assign, lambda some, closing: some.set_closing(closing)):
            for value in NOT_CLOSINGS:
                self.refused(InvalidClosing, {"value": value}, lambda: change(site, value))
            self.refused(UnknownLink, {"value": ("b", "d")}, lambda: change(site, wrong))
        self.assertEqual(self.told(site), [KITE, Closing.of(("a", "b")), 1, KITE - ("a", "b")])

    def test_widest_net(self):
        net = widest_net()
        site = Site(net)
        for link in net.links():
            site += link
        self.assertEqual([len(site), site.open_net().size], [120, 0])


if __name__ == "__main__":
    unittest.main()
