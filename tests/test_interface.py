import importlib
import inspect
import unittest

FUNCTIONS = {
    "basics": ["is_integer(value)", "is_count(value)", "is_name(value)", "is_link(value)", "link_of(one, other)"],
    "closings": ["open_net(net, closing)"],
    "walking": [
        "next_node(signs, closing, node, arriving)", "walk(signs, closing, start)",
        "walk_nodes(signs, closing, start, many)", "met(signs, closing, start)", "missed(signs, closing, start)",
        "is_good_at(signs, closing)",
    ],
    "faults": [
        "all_closings(net)", "faults(signs)", "first_fault(signs)", "is_good(signs)", "fewest_closed(signs)",
        "unused(signs)", "not_turning(signs)", "star(net, node, neighbours)", "star_fault(signs)",
    ],
    "goals": ["lost(signs, closing, goal)", "serves(signs, goal)", "first_loss(signs, goal)",
              "goal_signs(net, goal, signs)"],
    "blocks": ["blocks(net)", "cut_nodes(net)", "cycle_of(net, block)", "chords(net, block)"],
    "drawings": ["has_drawing(net)", "drawing(net)", "is_good_rows(rows)", "least_break(rows)", "rows_fault(rows)",
                 "ring_pieces(net)"],
    "counting": ["count_drawings(net)", "drawing_at(net, number)", "number_of(rows)", "drawings(net, first, many)"],
    "fillings": ["catalan(many)", "faces(net)", "count_fillings(net)", "filling_at(net, number)",
                 "number_of_filling(net, links)"],
    "knots": ["is_knot(net, value)", "find_knot(net)", "reduction(net)"],
    "carrying": ["brought_back(bundle, closing)", "carried(signs, bundle)", "carried_rows(rows, bundle)"],
    "breaking": ["first_break(signs, bundle)", "find_break(signs)", "is_break(signs, value)"],
    "joining": ["can_be_joined(net, one, other)", "joinable(net)", "least_cut(net)", "way_of_blocks(net, one, other)",
                "with_link(rows, one, other, at_one, at_other)"],
    "tours": ["tour_length(net, node)", "steps_to(signs, closing, start, goal)", "steps_to_all(signs, closing, start)",
              "longest(signs)"],
    "texts": ["net_text(net)", "read_net(text)", "rows_text(rows)", "read_rows(net, text)"],
    "judge": ["is_claim(value)", "certificate_of(claim)", "is_certificate(claim, value)", "answer(net)"],
}
METHODS = {
    ("nets", "Net"): [
        "__init__(self, nodes, links=())", "of(*links)", "path(cls, *nodes)", "ring(cls, *nodes)",
        "full(cls, *nodes)", "nodes(self)", "links(self)", "__len__(self)", "neighbours(self, node)",
        "pieces(self)", "piece_of(self, node)", "without(self, *nodes)", "drawn_together(self, link)",
        "renamed(self, **names)", "__add__(self, other)", "__sub__(self, other)", "__or__(self, other)",
        "__and__(self, other)", "is_part_of(self, other)", "__contains__(self, x)", "__eq__(self, other)",
        "__repr__(self)",
    ],
    ("closings", "Closing"): [
        "__init__(self, links=())", "of(*links)", "all_of(net)", "links(self)", "at(self, node)",
        "__or__(self, other)", "__and__(self, other)", "__sub__(self, other)", "__contains__(self, x)",
        "__len__(self)", "__eq__(self, other)", "__lt__(self, other)", "__le__(self, other)",
        "__gt__(self, other)", "__ge__(self, other)", "__str__(self)", "__repr__(self)",
    ],
    ("closings", "Site"): [
        "__init__(self, net)", "set_closing(self, closing)", "__iadd__(self, other)", "__isub__(self, other)",
        "__ior__(self, other)", "__contains__(self, x)", "__len__(self)", "open_net(self)", "copy(self)",
    ],
    ("signs", "Signs"): [
        "__init__(self, net, rows=None)", "of_rows(cls, net, **rows)", "__getitem__(self, at)",
        "__setitem__(self, at, worth)", "set_row(self, node, row)", "entries(self, node)",
        "turns(self, node, closed)", "copy(self)", "differences(self, other)", "__eq__(self, other)",
    ],
    ("walking", "Walker"): ["__init__(self, signs, closing, start)", "go(self)", "__call__(self, many)"],
    ("rows", "Rows"): [
        "__init__(self, net, rows=None)", "__getitem__(self, at)", "__invert__(self)", "__sub__(self, other)",
        "opened(self, closing)", "as_dict(self)", "signs(self)", "__eq__(self, other)", "__repr__(self)",
        "rounds(self)", "tour(self, node)",
    ],
    ("bundles", "Bundle"): [
        "__init__(self, net, groups, inner, ties)", "single(net)", "groups(self)", "inner(self)", "ties(self)",
        "group_of(self, node)", "tie(self, one, other)", "__rshift__(self, other)", "__eq__(self, other)",
    ],
    ("judge", "Answer"): ["__init__(self, about, paper)", "told(self)", "is_yes(self)"],
    ("judge", "Drawn"): ["__init__(self, about, paper)", "told(self)", "is_yes(self)"],
    ("judge", "Knotted"): ["__init__(self, about, paper)", "told(self)", "is_yes(self)"],
    ("desk", "Desk"): [
        "__init__(self)", "do(self, command)", "do_all(self, *commands)", "trial(self)", "tried(self, action)",
        "attempt(self, *commands)", "names(self)", "log(self)", "net_of(self, name)", "rows_of(self, name)",
    ],
}
PROPERTIES = {
    ("nets", "Net"): {"size": False}, ("closings", "Site"): {"net": False, "closing": True},
    ("signs", "Signs"): {"net": False}, ("rows", "Rows"): {"net": False, "is_flat": False, "is_drawing": False},
    ("bundles", "Bundle"): {"net": False, "small": False, "kind": False},
    ("walking", "Walker"): {"where": False, "arriving": False, "met_nodes": False, "taken": False},
}
STATIC = [("nets", "Net", "of"), ("closings", "Closing", "of"), ("closings", "Closing", "all_of"),
          ("bundles", "Bundle", "single")]
OF_CLASS = [("nets", "Net", "path"), ("nets", "Net", "ring"), ("nets", "Net", "full"), ("signs", "Signs", "of_rows")]


def module_of(name):
    return importlib.import_module("outsigns." + name)


class InterfaceTest(unittest.TestCase):
    def test_functions(self):
        for file, listed in FUNCTIONS.items():
            for text in listed:
                name = text.partition("(")[0]
                found = getattr(module_of(file), name)
                self.assertEqual(name + str(inspect.signature(found)), text)
                self.assertEqual(found.__module__, "outsigns." + file)

    def test_methods_stand_in_the_class_itself(self):
        for (file, kind), listed in METHODS.items():
            held = vars(getattr(module_of(file), kind))
            self.assertEqual(getattr(module_of(file), kind).__module__, "outsigns." + file)
            for text in listed:
                name = text.partition("(")[0]
                found = getattr(held[name], "__func__", held[name])
                self.assertEqual(name + str(inspect.signature(found)), text)

    def test_properties(self):
        for (file, kind), listed in PROPERTIES.items():
            held = vars(getattr(module_of(file), kind))
            for name, assigned in listed.items():
                self.assertIsInstance(held[name], property)
                self.assertEqual(held[name].fset is not None, assigned)

    def test_static_and_class_methods(self):
        for file, kind, name in STATIC:
            self.assertIsInstance(vars(getattr(module_of(file), kind))[name], staticmethod)
        for file, kind, name in OF_CLASS:
            self.assertIsInstance(vars(getattr(module_of(file), kind))[name], classmethod)

    def test_generators(self):
        for file, name in (("walking", "walk_nodes"), ("faults", "all_closings"), ("faults", "faults"),
                           ("counting", "drawings")):
            self.assertTrue(inspect.isgeneratorfunction(getattr(module_of(file), name)))
        self.assertTrue(inspect.isgeneratorfunction(module_of("signs").Signs.entries))


if __name__ == "__main__":
    unittest.main()
