import copy
import itertools
import unittest

from drawn import Chance, drawn_net, drawn_signs
from oracles import drawn_rows, is_plainly_drawn, is_plainly_good, plain_faults_at
from outsigns.breaking import is_break
from outsigns.bundles import Bundle
from outsigns.closings import Closing
from outsigns.drawings import drawing, has_drawing, is_good_rows
from outsigns.errors import InvalidClaim, InvalidNet
from outsigns.faults import is_good
from outsigns.judge import Answer, Drawn, Knotted, answer, certificate_of, is_certificate, is_claim
from outsigns.knots import find_knot, is_knot
from outsigns.nets import Net
from outsigns.rows import Rows
from outsigns.signs import Signs
from refusals import Refusals
from shapes import KNOTS, glued, ladder, star, subdivided
from values import NOT_LINKS, NOT_LISTS, NOT_NAMES, NOT_NETS, many_names, widest_net

KITE = Net.ring("a", "b", "c", "d") + ("a", "c")
FOUR = Net.full("a", "b", "c", "d")
WORDS = ["drawn", "knotted", "good", "bad", "broken", "joined", "apart"]
WIDE = star(7) | Net.path("hub", "x", "y", "z", "w")


def strangers(net):
    return [pair for pair in itertools.combinations(net.nodes(), 2) if pair not in net]


def some_nets(many):
    found = [Net(["a"]), Net(["a", "b"]), KITE, FOUR, *KNOTS]
    for seed in range(many):
        chance = Chance(seed)
        found.append(drawn_net(chance, 12))
        found.append(glued(chance, many_names(8), 5))
        found.append(subdivided(chance, chance.pick(KNOTS), many_names(chance.below(4))) | Net(["zz"]))
    return found


def claims_about(chance, net):
    """Claims of all kinds about a net."""
    rows = [drawn_rows(chance, net), Rows(net)]
    if has_drawing(net):
        rows.append(drawing(net))
    found = [("drawn", net), ("knotted", net), *[(word, one) for one in rows for word in ("good", "bad")]]
    if net.size <= 10 or not has_drawing(net):
        if max(len(net.neighbours(node)) for node in net.nodes()) <= 8:
            found += [("broken", drawn_signs(chance, net)), ("broken", Signs(net))]
    for one, other in chance.shuffled(strangers(net))[:3]:
        found += [("joined", net, one, other), ("apart", net, other, one)]
    return found


def is_plainly_true(claim):
    word, about = claim[:2]
    if word in ("drawn", "knotted"):
        return has_drawing(about) is (word == "drawn")
    if word in ("joined", "apart"):
        return has_drawing(about + claim[2:]) is (word == "joined")
    if word == "broken":
        return not has_drawing(about.net) or not is_good(about)
    return is_good_rows(about) is (word == "good")


def is_paper(claim, value):
    """Whether a value of the right kind is a certificate, by following it plainly."""
    word, about = claim[:2]
    net = about + claim[2:] if len(claim) == 4 else about
    if word in ("drawn", "joined"):
        return set(value) == set(net.nodes()) and is_plainly_drawn(net, value)
    if word in ("knotted", "apart"):
        return Bundle(net, *value).kind in ("four", "five")
    if word == "broken":
        return is_break(about, value)
    if word == "bad":
        closing, start, node = value
        return any(start == first and node in gone for first, gone in
                   plain_faults_at(about.net, about.as_dict(), closing))
    rings = [piece for piece in about.net.pieces() if len(piece) > 2
             and all(len(about.net.neighbours(node)) == 2 for node in piece)]
    rest = [piece for piece in about.net.pieces() if piece not in rings or piece[0] not in value]
    drawn = [piece for piece in about.net.pieces() if is_plainly_drawn(
        about.net.without(*set(about.net.nodes()) - set(piece)), {node: about[node] for node in piece})]
    return value == sorted(value) and rest == drawn


class IsClaimTest(Refusals):
    def test_claims(self):
        rows, signs = Rows(KITE), Signs(KITE)
        for value in [("drawn", KITE), ("knotted", KITE), ("good", rows), ("bad", rows), ("broken", signs),
                      ("joined", KITE, "b", "d"), ("apart", KITE, "d", "b"), ("broken", Signs(FOUR)),
                      ("drawn", widest_net()), ("bad", Rows(widest_net())), ("broken", Signs(widest_net()))]:
            self.assertIs(is_claim(value), True)
            self.assertIs(is_claim(list(value)), False)
            self.assertIs(is_claim(value[:-1]), False)
            self.assertIs(is_claim((*value, "a")), False)
            self.assertIs(is_claim((*value, None)), False)
            self.assertIs(is_claim(value[::-1]), False)
            self.assertIs(is_claim(value[1:]), False)
            self.assertIs(is_claim((value,)), False)
            for at in range(len(value)):
                for other in [*NOT_NETS, *NOT_NAMES, *NOT_LISTS, "a", "q", [value[at]], (value[at],), "Drawn", "drawn ",
                              Answer(KITE, {})]:
                    if not isinstance(other, (Net, Signs, Rows)):
                        if (at, other) not in [(2, "b"), (2, "d"), (3, "b"), (3, "d")]:
                            self.assertIs(is_claim((*value[:at], other, *value[at + 1:])), False, other)

    def test_each_word_has_its_kind(self):
        abouts = [KITE, Rows(KITE), Signs(KITE), Closing(), Bundle.single(KITE), drawing(KITE).as_dict()]
        fits = {"drawn": 0, "knotted": 0, "good": 1, "bad": 1, "broken": 2}
        for word in [*WORDS, "", "a", "DRAWN", None, 0, True]:
            for at, about in enumerate(abouts):
                self.assertIs(is_claim((word, about)), fits.get(word) == at)
                for pair in (("b", "d"), ("d", "b"), ("a", "c"), ("a", "b"), ("b", "b"), ("b", "q"), ("q", "b"), (1, "b")):
                    fit = word in ("joined", "apart") and at == 0 and set(pair) == {"b", "d"}
                    self.assertIs(is_claim((word, about, *pair)), fit)
        self.assertIs(is_claim(value=("drawn", KITE)), True)

    def test_any_value(self):
        for value in [*NOT_NETS, *NOT_LISTS, *NOT_LINKS, *NOT_NAMES, (), ("drawn",), ("joined", KITE), Rows(KITE), KITE,
                      ("joined", KITE, "b"), "drawn", Answer(KITE, None), WORDS, tuple(WORDS)]:
            self.assertIs(is_claim(value), False)
            self.refused(InvalidClaim, {"value": value}, lambda: certificate_of(value))
            self.refused(InvalidClaim, {"value": value}, lambda: is_certificate(value, None))

    def test_limits(self):
        ten, eleven = Net.ring(*"abcdefghij"), Net.ring(*"abcdefghijk")
        self.assertEqual([is_claim(("broken", Signs(net))) for net in (ten, eleven, WIDE, Net.full(*"abcde"),
                                                                       Net.full(*"abcdef"), FOUR | Net.ring(*"efghi"))],
                         [True, False, False, True, True, True])
        wide = widest_net()
        one, other = strangers(wide)[0]
        less = wide - wide.links()[0]
        for word in ("joined", "apart"):
            self.assertIs(is_claim((word, wide, one, other)), False)
            self.assertIs(is_claim((word, less, one, other)), True)
        self.refused(InvalidClaim, {"value": ("apart", wide, one, other)}, lambda: certificate_of(("apart", wide, one, other)))
        self.assertIs(certificate_of(("joined", less, one, other)), None)
        self.assertIs(is_certificate(("apart", less, one, other), certificate_of(("apart", less, one, other))), True)


class CertificateTest(Refusals):
    def test_a_true_claim_has_one(self):
        seen = {(word, fits): 0 for word in WORDS for fits in (True, False)}
        for seed, net in enumerate(some_nets(30)):
            for claim in claims_about(Chance(seed), net):
                self.assertIs(is_claim(claim), True)
                true = is_plainly_true(claim)
                seen[(claim[0], true)] += 1
                paper = certificate_of(claim)
                self.assertEqual(certificate_of(claim=claim), paper)
                self.assertIs(paper is not None, true, claim)
                if true:
                    kept = copy.deepcopy(paper) if claim[0] not in ("bad", "broken") else paper
                    self.assertIs(is_paper(claim, paper), True, (claim, paper))
                    self.assertIs(is_certificate(claim, paper), True)
                    self.assertIs(is_certificate(value=paper, claim=claim), True)
                    self.assertEqual(paper, kept)
                else:
                    self.assertIs(is_certificate(claim, None), False)
        self.assertGreater(min(seen.values()), 9, seen)

    def test_one_of_two(self):
        for seed, net in enumerate(some_nets(20)):
            chance = Chance(seed)
            rows = drawn_rows(chance, net)
            pairs = [(("drawn", net), ("knotted", net)), (("good", rows), ("bad", rows))]
            pairs += [(("joined", net, *pair), ("apart", net, *pair)) for pair in strangers(net)[:2]]
            for one, other in pairs:
                papers = [certificate_of(one), certificate_of(other)]
                self.assertEqual([paper is None for paper in papers].count(True), 1)
                for claim, paper in zip((one, other), papers):
                    for value in papers:
                        self.assertIs(is_certificate(claim, value), paper is not None and value == paper)

    def test_papers_of_others(self):
        nets = some_nets(6)
        every = [(claim, certificate_of(claim)) for seed, net in enumerate(nets) for claim in claims_about(Chance(seed), net)]
        for claim, _ in every[::5]:
            for other, paper in every[::3]:
                if paper is not None:
                    found = is_certificate(claim, paper)
                    if found:
                        self.assertTrue(is_plainly_true(claim) and is_paper(claim, paper))

    def test_examples(self):
        self.assertEqual(certificate_of(("drawn", KITE)), drawing(KITE).as_dict())
        self.assertEqual(certificate_of(("knotted", FOUR)), (
            [["a"], ["b"], ["c"], ["d"]], [], FOUR.links()))
        self.assertEqual(certificate_of(("good", drawing(KITE))), [])
        ring = Net.ring("b", "c", "d") | Net.ring("p", "q", "r", "s")
        turned = Rows(ring, {"b": ["d", "c"], "p": ["q", "s"]})
        self.assertEqual(certificate_of(("good", turned)),
                         [piece[0] for piece in ring.pieces() if not is_plainly_drawn(
                             ring.without(*set(ring.nodes()) - set(piece)), {node: turned[node] for node in piece})])
        self.assertIs(certificate_of(("bad", turned)), None)
        self.assertEqual(certificate_of(("broken", drawing(KITE).signs())), None)


class WrongPapersTest(Refusals):
    def wrong(self, claim, values):
        for value in values:
            self.assertIs(is_certificate(claim, value), False, value)

    def anything(self):
        return [*NOT_NETS, *NOT_LISTS, *NOT_LINKS, *NOT_NAMES, Rows(KITE), drawing(KITE), Bundle.single(FOUR),
                Answer(KITE, {}), answer(KITE), answer(FOUR), Closing()]

    def test_drawn(self):
        for seed in range(25):
            chance = Chance(seed)
            net = glued(chance, many_names(7), 5)
            rows = certificate_of(("drawn", net))
            claims = [("drawn", net)]
            for link in net.links()[:2]:
                claims.append(("joined", net - link, *chance.shuffled(link)))
            for claim in claims:
                good = [dict(list(rows.items())[::-1]), {node: list(row) for node, row in rows.items()},
                        {node: row[::-1] for node, row in rows.items()}]
                for value in good:
                    self.assertIs(is_certificate(claim, value), True)
                self.wrong(claim, [*self.anything(), list(rows.items()), {}, {**rows, "zz": ()}, Rows(net, rows)])
                for node, row in rows.items():
                    less = {name: other for name, other in rows.items() if name != node}
                    self.wrong(claim, [less, {**less, "zz": row}, {**less, (node,): row}, {**less, None: row}])
                    self.wrong(claim, [{**rows, node: value} for value in (
                        None, "", "ab", {}, set(row), [*row, "zz"], [*row, node], {name: True for name in row}
                        if row else 0, [None, *row[1:]], [*row, *row] if row else 0, row[1:] if row else ["a"])])
                    for other in itertools.islice(itertools.permutations(row), 8):
                        value = {**rows, node: other}
                        self.assertIs(is_certificate(claim, value), is_plainly_drawn(net, value))
        self.wrong(("drawn", FOUR), [Rows(FOUR).as_dict(), drawing(KITE).as_dict()])
        self.wrong(("joined", KITE, "b", "d"), [Rows(FOUR).as_dict(), drawing(KITE).as_dict()])

    def test_knotted(self):
        for seed in range(20):
            chance = Chance(seed)
            net = subdivided(chance, chance.pick(KNOTS), many_names(9)[4:4 + chance.below(5)])
            groups, inner, ties = paper = certificate_of(("knotted", net))
            link = chance.pick(net.links())
            for claim in (("knotted", net), ("apart", net - link, *link)):
                self.assertIs(is_certificate(claim, (tuple(groups), tuple(inner), [pair[::-1] for pair in ties])), True)
                self.wrong(claim, [*self.anything(), list(paper), paper[:2], (*paper, []), find_knot(net),
                                   (groups, ties, inner), (groups, inner, ties[1:]), (groups[1:], inner, ties),
                                   (groups, [*inner, ties[0]], ties[1:]), (groups, inner, [*ties, ties[0]]),
                                   ([*groups, ["q"]], inner, ties), (groups, inner, [list(pair) for pair in ties])])
            self.assertIs(is_certificate(("knotted", net | Net.path("x", "y")), paper), True)
            held = {tuple(sorted(pair)) for pair in [*inner, *ties]}
            for gone in net.links():
                self.assertIs(is_certificate(("knotted", net - gone), paper), gone not in held)
                self.assertIs(is_knot(net - gone, paper), gone not in held)

    def test_good(self):
        ring = Net.ring("b", "c", "d") | Net.ring("p", "q", "r", "s") | Net.path("x", "y") | Net(["z"])
        seen = set()
        for seed in range(40):
            rows = drawn_rows(Chance(seed), ring)
            paper = certificate_of(("good", rows))
            seen.add(tuple(paper))
            for many in range(3):
                for value in itertools.permutations(["b", "p"], many):
                    self.assertIs(is_certificate(("good", rows), list(value)), list(value) == paper)
                    self.assertIs(is_certificate(("good", rows), value), list(value) == paper)
            self.wrong(("good", rows), [None, {}, {"b"}, "", "b", "bp", [*paper, "x"], [*paper, "z"], [*paper, None],
                                        [*paper, "q"], ["c", *paper], [paper], (paper,), {name: 1 for name in paper}])
            self.wrong(("bad", rows), [*self.anything(), paper])
        self.assertEqual(len(seen), 4)
        bad = Rows(KITE, {"a": ["c", "b", "d"]})
        self.assertFalse(is_plainly_good(KITE, bad.as_dict()))
        self.wrong(("good", bad), [[], (), ["a"], [*"abcd"], None])

    def test_bad(self):
        for seed in range(30):
            chance = Chance(seed)
            net = drawn_net(chance, 9)
            rows = drawn_rows(chance, net)
            if is_good_rows(rows):
                continue
            closing, start, node = paper = certificate_of(("bad", rows))
            claim = ("bad", rows)
            self.wrong(claim, [*self.anything(), list(paper), paper[:2], (*paper, node), (closing, node), paper[::-1],
                               (closing.links(), start, node), (str(closing), start, node), (closing, start, [node]),
                               (closing, [start], node), (closing, start, None), (closing, "qq", node),
                               (closing | Closing.of(("q", "qq")), start, node), (None, start, node)])
            for other in net.links():
                turned = closing - Closing.of(other) if other in closing else closing | Closing.of(other)
                value = (turned, start, node)
                self.assertIs(is_certificate(claim, value), is_paper(claim, value))
            for one, other in itertools.product(net.nodes(), repeat=2):
                value = (closing, one, other)
                self.assertIs(is_certificate(claim, value), is_paper(claim, value))

    def test_bad_rows_of_large_nets(self):
        rows = Rows(widest_net())
        paper = certificate_of(("bad", rows))
        self.assertIs(is_certificate(("bad", rows), paper), True)
        self.assertIs(is_certificate(("good", rows), paper), False)
        self.assertIs(certificate_of(("good", rows)), None)
        wide = Rows(star(59))
        self.assertEqual([certificate_of(("good", wide)), certificate_of(("bad", wide))], [[], None])

    def test_broken(self):
        for seed in range(30):
            chance = Chance(seed)
            net = chance.pick([*KNOTS, drawn_net(chance, 9), KITE])
            signs = drawn_signs(chance, net)
            claim = ("broken", signs)
            paper = certificate_of(claim)
            if paper is None:
                self.assertTrue(is_good(signs))
                self.wrong(claim, [(Closing(), one, other) for one, other in itertools.product(net.nodes(), repeat=2)])
                continue
            closing, start, node = paper
            self.wrong(claim, [*self.anything(), list(paper), paper[:2], (*paper, node), (closing.links(), start, node),
                               (closing, start, start), (closing, start, "qq"), (closing, node)])
            for one, other in itertools.product(net.nodes(), repeat=2):
                self.assertIs(is_certificate(claim, (closing, one, other)), is_break(signs, (closing, one, other)))


class AnswerTest(Refusals):
    def test_answers(self):
        for net in (*some_nets(8), ladder(), widest_net()):
            found = answer(net)
            told = f"{len(net)} nodes, {net.size} links"
            self.assertIs(found.about, net)
            if has_drawing(net):
                self.assertIs(type(found), Drawn)
                self.assertEqual([found.paper, found.told(), found.is_yes()],
                                 [drawing(net).as_dict(), "drawn: " + told, True])
                self.assertIs(is_certificate(("drawn", net), found.paper), True)
            else:
                self.assertIs(type(found), Knotted)
                self.assertEqual([found.told(), found.is_yes()], ["knotted: " + told, False])
                self.assertIs(is_certificate(("knotted", net), found.paper), True)
            self.assertEqual(answer(net=net).told(), found.told())

    def test_made_by_hand(self):
        paper = {"a": 1}
        for kind, text, yes in ((Answer, "", None), (Drawn, "drawn: ", True), (Knotted, "knotted: ", False)):
            made = kind(FOUR, paper)
            self.assertIs(made.about, FOUR)
            self.assertIs(made.paper, paper)
            self.assertEqual([made.told(), made.is_yes()], [text + "4 nodes, 6 links", yes])
            self.assertEqual(kind(paper=None, about=Net(["a"])).told(), text + "1 nodes, 0 links")
            for value in (None, 0, [], "x", answer):
                other = kind(value, value)
                self.assertIs(other.about, value)
                self.assertIs(other.paper, value)
                self.assertIs(other.is_yes(), yes)
            self.assertIsInstance(made, Answer)
        self.assertFalse(issubclass(Drawn, Knotted) or issubclass(Knotted, Drawn))

    def test_refusals(self):
        for value in NOT_NETS:
            self.refused(InvalidNet, {"value": value}, lambda: answer(value))


if __name__ == "__main__":
    unittest.main()
