"""Walks by signs at a closing."""

from outsigns.basics import is_count
from outsigns.closings import need_closing, open_net
from outsigns.errors import InvalidCount
from outsigns.nets import need_node
from outsigns.signs import names_left, need_open, need_signs
from outsigns.sorting import sorted_names


def next_node(signs, closing, node, arriving):
    """Where one goes on at a node, a name or None."""
    need_signs(signs)
    need_closing(closing, signs.net)
    need_node(signs.net, node)
    closed = closing.at(node)
    need_open(arriving, names_left(signs.net, node, closed))
    return signs.entry_at(node, tuple(closed), arriving)


def walk(signs, closing, start):
    """The lead and the loop of the walk from a node."""
    need_walk(signs, closing, start)
    return lead_and_loop(signs, closed_table(signs.net, closing), start)


def walk_nodes(signs, closing, start, many):
    """Yield the nodes to which the walk comes, the start first, at most so many."""
    need_walk(signs, closing, start)
    need_count(many)
    closed = closed_table(signs.net, closing)
    here = start
    arriving = None
    for _ in range(many):
        yield here
        going = signs.entry_at(here, closed[here], arriving)
        if going is None:
            return
        arriving = here
        here = going


def met(signs, closing, start):
    """The sorted list of the nodes that the walk meets."""
    need_walk(signs, closing, start)
    return nodes_met(signs, closed_table(signs.net, closing), start)


def missed(signs, closing, start):
    """The sorted list of the nodes of the start's piece that the walk does not meet."""
    found = met(signs, closing, start)
    return [node for node in open_net(signs.net, closing).piece_of(start) if node not in found]


def is_good_at(signs, closing):
    """Whether the walk from each node meets all nodes of its piece."""
    need_signs(signs)
    need_closing(closing, signs.net)
    return len(misses_at(signs, closing)) == 0


class Walker:
    """Somebody who walks by the signs as they were when the walk began."""

    def __init__(self, signs, closing, start):
        need_walk(signs, closing, start)
        self._signs = signs.copy()
        self._closed = closed_table(signs.net, closing)
        self._where = start
        self._arriving = None
        self._met = {start: True}
        self._taken = 0

    @property
    def where(self):
        """The node at which the walker is."""
        return self._where

    @property
    def arriving(self):
        """The node from which the walker came last, None at first."""
        return self._arriving

    @property
    def met_nodes(self):
        """The sorted list of the nodes to which the walker has come."""
        return sorted_names(list(self._met))

    @property
    def taken(self):
        """The number of links that the walker has passed."""
        return self._taken

    def go(self):
        """Go on by one link and return the node there; None if the entry tells to stay."""
        going = self._signs.entry_at(self._where, self._closed[self._where], self._arriving)
        if going is None:
            return None
        self._arriving = self._where
        self._where = going
        self._met[going] = True
        self._taken = self._taken + 1
        return going

    def __call__(self, many):
        need_count(many)
        found = []
        for _ in range(many):
            going = self.go()
            if going is None:
                return found
            found.append(going)
        return found


def need_walk(signs, closing, start):
    """Raise an error unless there is a walk by these signs at this closing from this node."""
    need_signs(signs)
    need_closing(closing, signs.net)
    need_node(signs.net, start)


def need_count(many):
    """Raise InvalidCount unless a value is a COUNT."""
    if not is_count(many):
        raise InvalidCount(many)


def closed_table(net, closing):
    """A dict from all nodes to the sorted tuples of their closed neighbours."""
    return {node: tuple(closing.at(node)) for node in net.nodes()}


def lead_and_loop(signs, closed, start):
    """The lead and the loop of the walk from a node, by a table of closed neighbours."""
    nodes = [start]
    seen = {}
    here = start
    going = signs.entry_at(start, closed[start], None)
    while going is not None:
        arriving = here
        here = going
        if (here, arriving) in seen:
            first = seen[(here, arriving)]
            return nodes[:first], nodes[first:]
        seen[(here, arriving)] = len(nodes)
        nodes.append(here)
        going = signs.entry_at(here, closed[here], arriving)
    return nodes, []


def nodes_met(signs, closed, start):
    """The sorted list of the nodes that a walk meets, by a table of closed neighbours."""
    lead, loop = lead_and_loop(signs, closed, start)
    found = {node: True for node in [*lead, *loop]}
    return sorted_names(list(found))


def misses_at(signs, closing):
    """The tuples (start, missed) of all starts, sorted, that miss a node."""
    closed = closed_table(signs.net, closing)
    joined = {}
    for piece in open_net(signs.net, closing).pieces():
        for node in piece:
            joined[node] = piece
    found = []
    for start in signs.net.nodes():
        seen = nodes_met(signs, closed, start)
        if len(seen) < len(joined[start]):
            found.append((start, [node for node in joined[start] if node not in seen]))
    return found
