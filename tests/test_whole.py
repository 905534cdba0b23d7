"""The guarantees over the whole program: what was changed many times tells what is newly made."""

import itertools
import unittest

from bundled import drawn_bundle
from drawn import Chance, drawn_net, drawn_signs
from oracles import drawn_rows
from outsigns.blocks import blocks, cut_nodes, cycle_of
from outsigns.breaking import find_break, is_break
from outsigns.bundles import Bundle
from outsigns.carrying import carried_rows
from outsigns.closings import Closing, Site, open_net
from outsigns.counting import count_drawings, drawing_at, number_of
from outsigns.drawings import drawing, has_drawing, is_good_rows, least_break, rows_fault
from outsigns.errors import HasDrawing
from outsigns.faults import faults, first_fault, is_good, not_turning, star_fault, unused
from outsigns.goals import first_loss
from outsigns.joining import can_be_joined, joinable, way_of_blocks
from outsigns.judge import answer, certificate_of, is_certificate
from outsigns.knots import find_knot, is_knot, reduction
from outsigns.nets import Net
from outsigns.rows import Rows
from outsigns.signs import Signs
from outsigns.texts import net_text, read_net, read_rows, rows_text
from outsigns.tours import longest, tour_length
from outsigns.walking import is_good_at, met, walk


def net_told(net):
    """What is told of a net."""
    nodes = net.nodes()
    found = [net, nodes, net.links(), net.size, len(net), net.pieces(), [net.neighbours(node) for node in nodes]]
    found += [blocks(net), cut_nodes(net), [cycle_of(net, block) for block in blocks(net)], has_drawing(net), drawing(net)]
    found += [count_drawings(net), joinable(net), answer(net).paper, answer(net).told(), net_text(net)]
    found += [way_of_blocks(net, nodes[0], nodes[-1]), drawing_at(net, 0) if has_drawing(net) else reduction(net)]
    return found + [tour_length(net, nodes[0]) if has_drawing(net) else None, repr(net)]


def rows_told(rows):
    """What is told of rows."""
    found = [rows, rows.net, rows.as_dict(), rows.rounds(), rows.is_flat, rows.is_drawing, is_good_rows(rows)]
    found += [least_break(rows), rows_fault(rows), rows_text(rows), repr(rows), ~rows]
    found += [number_of(rows) if rows.is_drawing else None, certificate_of(("good", rows)), certificate_of(("bad", rows))]
    found += [[rows.tour(node) for node in rows.net.nodes()]]
    return found


def signs_told(signs):
    """What is told of signs of a net with few links."""
    net = signs.net
    found = [[list(signs.entries(node)) for node in net.nodes()], is_good(signs), first_fault(signs), unused(signs)]
    found += [not_turning(signs), star_fault(signs), longest(signs), find_break(signs), certificate_of(("broken", signs))]
    found += [[first_loss(signs, node) for node in net.nodes()]]
    for closing in (Closing(), Closing(net.links()[::2])):
        found += [[walk(signs, closing, node), met(signs, closing, node)] for node in net.nodes()]
        found.append(is_good_at(signs, closing))
    return found


class ChangedTest(unittest.TestCase):
    def test_nets(self):
        for seed in range(25):
            chance = Chance(seed)
            net = drawn_net(chance, 9)
            for _ in range(10):
                fresh = Net(chance.shuffled(net.nodes()), [link[::-1] for link in chance.shuffled(net.links())])
                self.assertEqual(net_told(net), net_told(fresh))
                self.assertEqual(net_told(net), net_told(read_net(net_text(net))))
                one, other = chance.shuffled(sorted({*net.nodes(), "zz"}))[:2]
                kind = chance.below(8)
                if kind < 3 and "zz" not in (one, other):
                    net = net - (one, other) if (one, other) in net else net + (one, other)
                elif kind == 3 and net.size:
                    net = net.drawn_together(chance.pick(net.links()))
                elif kind == 4 and len(net) > 2 and one != "zz":
                    net = net.without(one)
                elif kind == 5:
                    net = net | Net(["zz"]) | Net.path(one, other)
                elif kind == 6 and one != "zz":
                    net = net.renamed(**{one: "other"}) if "other" not in net else net
                else:
                    net = open_net(net, Closing([link for link in net.links() if chance.below(6) == 0]))

    def test_sites(self):
        for seed in range(20):
            chance, net = Chance(seed), drawn_net(Chance(seed), 12)
            site, closed = Site(net), []
            for _ in range(15):
                if net.size:
                    link = chance.pick(net.links())
                    if link in closed:
                        site -= link
                        closed.remove(link)
                    else:
                        site += link
                        closed.append(link)
                self.assertEqual([site.closing, len(site)], [Closing(closed), len(closed)])
                self.assertEqual(net_told(site.open_net()), net_told(open_net(net, Closing(closed))))

    def test_rows(self):
        for seed in range(30):
            chance = Chance(seed)
            net = drawn_net(chance, 12)
            rows = drawn_rows(chance, net) if seed % 2 or not has_drawing(net) else drawing(net)
            for _ in range(6):
                fresh = Rows(Net(rows.net.nodes(), rows.net.links()), dict(list(rows.as_dict().items())[::-1]))
                self.assertEqual(rows_told(rows), rows_told(fresh))
                self.assertEqual(rows_told(rows), rows_told(read_rows(rows.net, rows_text(rows))))
                kind = chance.below(4)
                if kind == 0 and rows.net.size:
                    rows = rows - chance.pick(rows.net.links())
                elif kind == 1:
                    rows = ~rows
                elif kind == 2:
                    rows = rows.opened(Closing([link for link in rows.net.links() if chance.below(5) == 0]))
                else:
                    bundle = Bundle(*drawn_bundle(chance, rows.net))
                    rows = carried_rows(rows, bundle)

    def test_signs(self):
        for seed in range(30):
            chance = Chance(seed)
            net = drawn_net(chance, 6)
            signs = drawn_signs(chance, net) if seed % 2 else Signs(net)
            rows, changes = {node: net.neighbours(node) for node in net.nodes()}, []
            if seed % 2:
                changes = [((node, closed, arriving), going) for node in net.nodes()
                           for closed, arriving, going in signs.entries(node)]
            for _ in range(6):
                node = chance.pick(net.nodes())
                if chance.below(3) == 0:
                    rows[node] = chance.shuffled(net.neighbours(node))
                    signs.set_row(node, rows[node])
                    changes = [(place, going) for place, going in changes if place[0] != node]
                else:
                    closed, arriving, _ = chance.pick(list(signs.entries(node)))
                    going = chance.pick([None, *[name for name in net.neighbours(node) if name not in closed]])
                    signs[node, chance.shuffled(closed), arriving] = going
                    changes.append(((node, closed, arriving), going))
                fresh = Signs(net, rows)
                for place, going in changes:
                    fresh[place] = going
                self.assertEqual([signs == fresh, signs.differences(fresh), fresh == signs], [True, [], True])
                self.assertEqual(signs_told(signs), signs_told(fresh))
                self.assertEqual(signs_told(signs), signs_told(signs.copy()))

    def test_back_to_the_rows(self):
        for seed in range(30):
            chance = Chance(seed)
            net = drawn_net(chance, 7)
            signs, other = Signs(net), Signs(net)
            for node in net.nodes():
                row = chance.shuffled(net.neighbours(node))
                other.set_row(node, row)
                for closed, arriving, going in list(other.entries(node)):
                    signs[node, closed, arriving] = going
            self.assertEqual([signs == other, other == signs, signs.differences(other)], [True, True, []])
            self.assertEqual(signs_told(signs), signs_told(other))


class OneOrTheOtherTest(unittest.TestCase):
    def test_drawings_knots_and_breaks(self):
        for seed in range(80):
            chance = Chance(seed)
            pairs = chance.shuffled(itertools.combinations("abcdef", 2))
            net = Net(list("abcdef"), pairs[:5 + chance.below(6)])
            signs = drawn_signs(chance, net)
            knot, found = find_knot(net), drawing(net)
            self.assertEqual([knot is None, find_break(signs) is None], [found is not None] * 2)
            if knot is None:
                self.assertRaises(HasDrawing, reduction, net)
                self.assertEqual([is_good(found.signs()), is_good_rows(found)], [True, True])
            else:
                self.assertIs(is_knot(net, (knot.groups(), knot.inner(), knot.ties())), True)
                self.assertIs(is_break(signs, find_break(signs)), True)
                self.assertIs(is_good(signs), False)
            for one, other in itertools.combinations("abcdef", 2):
                if (one, other) not in net:
                    word = "joined" if can_be_joined(net, one, other) else "apart"
                    claim = (word, net, one, other)
                    self.assertIs(is_certificate(claim, certificate_of(claim)), True)

    def test_rows_without_search(self):
        for seed in range(60):
            net = drawn_net(Chance(seed), 8)
            rows = drawn_rows(Chance(seed), net)
            self.assertIs(is_good_rows(rows), list(faults(rows.signs())) == [])


if __name__ == "__main__":
    unittest.main()
