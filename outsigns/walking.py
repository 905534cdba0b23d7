"""Walks by signs at a closing."""

from outsigns.checks import need_count
from outsigns.closings import need_closing
from outsigns.meeting import are_all_met, bits_met, bits_of, misses_by, nodes_joined
from outsigns.nets import need_node
from outsigns.signs import need_open, need_signs
from outsigns.sorting import sorted_names


def next_node(signs, closing, node, arriving):
    """Where one goes on at a node, a name or None."""
    need_walk(signs, closing, node)
    goings = signs.goings(node, tuple(closing.at(node)))
    need_open(arriving, goings, ())
    return goings[arriving]


def walk(signs, closing, start):
    """The lead and the loop of the walk from a node."""
    need_walk(signs, closing, start)
    return lead_and_loop(goings_at(signs, closing), start)


def walk_nodes(signs, closing, start, many):
    """Yield the nodes to which the walk comes, the start first, at most so many."""
    need_walk(signs, closing, start)
    need_count(many)
    goings = goings_at(signs, closing)
    here = start
    arriving = None
    for _ in range(many):
        yield here
        going = goings[here][arriving]
        if going is None:
            return
        arriving = here
        here = going


def met(signs, closing, start):
    """The sorted list of the nodes that the walk meets."""
    need_walk(signs, closing, start)
    return sorted_names(nodes_met(goings_at(signs, closing), start))


def missed(signs, closing, start):
    """The sorted list of the nodes of the start's piece that the walk does not meet."""
    need_walk(signs, closing, start)
    goings = goings_at(signs, closing)
    found = nodes_met(goings, start)
    return sorted_names([node for node in nodes_joined(goings, start) if node not in found])


def is_good_at(signs, closing):
    """Whether the walk from each node meets all nodes of its piece."""
    need_signs(signs)
    need_closing(closing, signs.net)
    goings = goings_at(signs, closing)
    return are_all_met(goings, signs.net.links(), bits_met(goings, bits_of(signs.net.nodes())))


class Walker:
    """Somebody who walks by the signs as they were when the walk began."""

    def __init__(self, signs, closing, start):
        need_walk(signs, closing, start)
        goings = goings_at(signs, closing)
        self._goings = {node: dict(goings[node]) for node in goings}
        self._where = start
        self._arriving = None
        self._met = {start: True}
        self._taken = 0

    @property
    def where(self):
        """The node at which the walker is."""
        return self._where

    @property
    def arriving(self):
        """The node from which the walker came last, None at first."""
        return self._arriving

    @property
    def met_nodes(self):
        """The sorted list of the nodes to which the walker has come."""
        return sorted_names(list(self._met))

    @property
    def taken(self):
        """The number of links that the walker has passed."""
        return self._taken

    def go(self):
        """Go on by one link and return the node there; None if the entry tells to stay."""
        going = self._goings[self._where][self._arriving]
        if going is None:
            return None
        self._arriving = self._where
        self._where = going
        self._met[going] = True
        self._taken = self._taken + 1
        return going

    def __call__(self, many):
        need_count(many)
        found = []
        for _ in range(many):
            going = self.go()
            if going is None:
                return found
            found.append(going)
        return found


def need_walk(signs, closing, start):
    """Raise an error unless there is a walk by these signs at this closing from this node."""
    need_signs(signs)
    need_closing(closing, signs.net)
    need_node(signs.net, start)


def goings_at(signs, closing):
    """The goings of signs at a closing: a dict from all nodes to the entries that are asked there."""
    return signs.goings_at(closing.ends())


def lead_and_loop(goings, start):
    """The lead and the loop of the walk from a node."""
    nodes = [start]
    seen = {}
    arriving = start
    here = goings[start][None]
    while here is not None:
        place = (here, arriving)
        if place in seen:
            return nodes[:seen[place]], nodes[seen[place]:]
        seen[place] = len(nodes)
        nodes.append(here)
        going = goings[here][arriving]
        arriving = here
        here = going
    return nodes, []


def nodes_met(goings, start):
    """The list of the nodes that the walk from a node meets."""
    seen = {}
    found = {start: True}
    arriving = start
    here = goings[start][None]
    while here is not None and (here, arriving) not in seen:
        seen[(here, arriving)] = True
        found[here] = True
        going = goings[here][arriving]
        arriving = here
        here = going
    return list(found)


def misses_at(signs, closing):
    """The tuples (start, missed) of all starts, sorted, that miss a node."""
    return misses_by(goings_at(signs, closing), bits_of(signs.net.nodes()), signs.net.links())
