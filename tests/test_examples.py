import doctest
import os
import unittest

from outsigns.breaking import first_break
from outsigns.bundles import Bundle
from outsigns.closings import Closing, open_net
from outsigns.counting import count_drawings, drawing_at
from outsigns.drawings import drawing
from outsigns.faults import first_fault, is_good
from outsigns.fillings import count_fillings, filling_at
from outsigns.joining import can_be_joined, least_cut, way_of_blocks
from outsigns.nets import Net
from outsigns.signs import Signs
from outsigns.walking import missed, walk, walk_nodes


class ExamplesTest(unittest.TestCase):
    """The examples of the document."""

    def test_overview(self):
        ring = Net.ring("a", "b", "c", "d")
        rows = {"a": ["b", "c", "d"], "b": ["c", "a"], "c": ["d", "a", "b"], "d": ["a", "c"]}
        self.assertTrue(is_good(Signs(ring + ("a", "c"), rows)))
        knot = Signs(ring + ("a", "c") + ("b", "d"))
        self.assertFalse(is_good(knot))
        self.assertIsNotNone(first_fault(knot))
        closing = Closing.of(("b", "d"))
        self.assertEqual(list(walk_nodes(knot, closing, "c", 7)), ["c", "a", "d", "c", "a", "d", "c"])

    def test_closings(self):
        net = Net.ring("a", "b", "c", "d") + ("c", "a")
        self.assertEqual([net.links(), net.neighbours("a"), net.drawn_together(("b", "a")).links()], [
            [("a", "b"), ("a", "c"), ("a", "d"), ("b", "c"), ("c", "d")], ["b", "c", "d"],
            [("a", "c"), ("a", "d"), ("c", "d")]])
        closing = Closing.of(("d", "a"), ("c", "d"))
        self.assertEqual([str(closing), closing.at("d"), open_net(net, closing).pieces(), Closing() < closing],
                         ["a-d c-d", ["a", "c"], [["a", "b", "c"], ["d"]], True])

    def test_walking(self):
        signs = Signs(Net.full("a", "b", "c", "d"))
        closing = Closing.of(("b", "d"))
        self.assertEqual([walk(signs, closing, "c"), missed(signs, closing, "c"), signs["c", ["a"], "d"]],
                         [(["c"], ["a", "d", "c"]), ["b"], "b"])

    def test_drawings(self):
        net = Net.ring("a", "b", "c", "d") + ("a", "c")
        self.assertEqual([drawing(net)["a"], drawing(net)["b"], drawing(net).is_drawing, (~drawing(net))["a"]],
                         [("b", "c", "d"), ("c", "a"), True, ("d", "c", "b")])
        self.assertEqual(drawing(net).rounds(), [
            [("a", "b"), ("b", "c"), ("c", "d"), ("d", "a")], [("a", "c"), ("c", "b"), ("b", "a")],
            [("a", "d"), ("d", "c"), ("c", "a")]])
        self.assertEqual(drawing(net).tour("c"), ["c", "d", "a", "b"])

    def test_counts(self):
        net = Net.ring("a", "b", "c") | Net.path("a", "e")
        self.assertEqual([count_drawings(net), drawing_at(net, 1)["a"], drawing_at(net, 2)["a"]],
                         [4, ("c", "b", "e"), ("e", "b", "c")])
        ring = Net.ring("a", "b", "c", "d")
        self.assertEqual([count_fillings(ring), filling_at(ring, 0), filling_at(ring, 1)],
                         [2, [("b", "d")], [("a", "c")]])

    def test_breaking(self):
        net = Net.full("a", "b", "c", "d")
        closing, start, node = first_break(Signs(net), Bundle.single(net))
        self.assertEqual([str(closing), start, node], ["a-c", "b", "c"])

    def test_joining(self):
        net = Net.ring("a", "b", "c", "d") + ("a", "c")
        self.assertEqual([can_be_joined(net, "b", "d"), str(least_cut(Net.full("a", "b", "c", "d")))], [False, "a-b"])
        self.assertEqual(way_of_blocks(net | Net.path("c", "e"), "b", "e"),
                         [("b", "c", ["a", "b", "c", "d"]), ("c", "e", ["c", "e"])])

    def test_readme(self):
        path = os.path.join(os.path.dirname(os.path.dirname(os.path.abspath(__file__))), "README.md")
        with open(path, encoding="utf-8") as file:
            text = file.read().replace("```", "")
        examples = doctest.DocTestParser().get_doctest(text, {}, "README", path, 0)
        self.assertGreater(len(examples.examples), 10)
        self.assertEqual(doctest.DocTestRunner().run(examples).failed, 0)


if __name__ == "__main__":
    unittest.main()
