"""Values of many kinds, and small helpers, for the tests."""

from outsigns.closings import Closing, Site
from outsigns.nets import Net
from outsigns.rows import Rows
from outsigns.signs import Signs

NOT_NAMES = [
    None, True, False, 0, 1, -1, 10 ** 29, "", "A", "aB", "a1", "a b", "a-b", " a", "a ", "a\n", "`", "{", "_", "0",
    "abcdefghi", "abcdefghijklmnop", b"a", [], ["a"], (), ("a",), ("a", "b"), {}, {"a": 1}, {"a"}, Net(["a"]),
    Closing(), Net, ValueError("a"),
]
NOT_LINKS = [
    None, True, False, 0, 1, "", "a", "ab", "a-b", [], ["a", "b"], (), ("a",), ("a", "b", "c"), ("a", "a"), ("a", 1),
    (1, "a"), ("a", None), (True, False), ("a", "B"), ("A", "b"), ("", "a"), ("abcdefghi", "a"), ("a", ["b"]),
    (["a"], "b"), (("a", "b"), "c"), {"a": "b"}, {"a", "b"}, Net(["a"]), Closing(), b"ab",
]
NOT_LISTS = [None, True, False, 0, 1, "", "a", "ab", {}, {"a": "b"}, {"a"}, Net(["a"]), Closing(), b"a", range(2)]
NOT_COUNTS = [None, True, False, -1, -(10 ** 29), "", "1", [], [1], (), (1,), {}, b"1", Closing()]
RING = Net.ring("a", "b", "c")
NOT_NETS = [None, True, 1, "", "a", [], ["a"], ("a", "b"), {}, Closing(), Site(RING), Signs(RING), Rows(RING), Net]
NOT_CLOSINGS = [None, True, 0, "", "-", "a-b", [], [("a", "b")], ("a", "b"), (), {}, RING, Site(RING), Signs(RING), Rows(RING)]
NOT_SIGNS = [None, True, 0, "", "a", [], (), {}, {"a": []}, RING, Closing(), Site(RING), Rows(RING), Signs]


def many_names(many):
    """So many different names, sorted."""
    letters = "abcdefghijklmnopqrstuvwxyz"
    return [one + other for one in letters for other in letters][:many]


def widest_net():
    """A net of 60 nodes and 120 links, four at each node."""
    names = many_names(60)
    return Net(names, [(names[at], names[(at + by) % 60]) for at in range(60) for by in (1, 2)])


def next_in_row(row, closed, arriving):
    """Where a row goes on, worked out step by step along the row."""
    first = 0 if arriving is None else list(row).index(arriving) + 1
    for name in [*row[first:], *row[:first]]:
        if name not in closed:
            return name
    return None


def plain_walk(signs, closing, start, steps):
    """The nodes of a walk up to so many steps, asked of the entries one by one."""
    nodes, arriving = [start], None
    for _ in range(steps):
        here = nodes[-1]
        closed = [other for other in signs.net.neighbours(here) if (here, other) in closing]
        going = signs[here, closed, arriving]
        if going is None:
            return nodes
        arriving = here
        nodes.append(going)
    return nodes
