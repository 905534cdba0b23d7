"""Signs at all closings of a net with few links."""

from outsigns.basics import ordered_pair
from outsigns.closings import made_closing
from outsigns.errors import TooMany
from outsigns.meeting import bits_of, lost_by, misses_by
from outsigns.sorting import parts_of_size

MOST_SEARCHED = 10


def has_few_links(net):
    """Whether a net has so few links that one can go through all closings."""
    return net.size <= MOST_SEARCHED


def need_few_links(net):
    """Raise TooMany if a net has too many links to go through all closings."""
    if not has_few_links(net):
        raise TooMany("links", MOST_SEARCHED)


class Search:
    """The goings of signs at all closings of links of their net, at most ten.

    Sets of links are integers, sums of the bits of their links.
    """

    def __init__(self, signs):
        net = signs.net
        self._node_bits = bits_of(net.nodes())
        self._link_bits = bits_of(net.links())
        self._near_bits = {}
        self._tables = {}
        for node in net.nodes():
            table = signs.goings_by_closed(node)
            self._near_bits[node] = self.set_of_links(node, net.neighbours(node))
            self._tables[node] = {self.set_of_links(node, closed): table[closed] for closed in table}

    def sets_of_links(self, many):
        """The list of all sets of so many links, in order of their sorted lists."""
        return [sum(part) for part in parts_of_size(list(self._link_bits.values()), many)]

    def closing_of(self, closed):
        """The closing of a set of links."""
        return made_closing([link for link in self._link_bits if closed & self._link_bits[link]])

    def set_of_links(self, node, names):
        """The set of the links from a node to some of its neighbours."""
        return sum([self._link_bits[ordered_pair(node, name)] for name in names])

    def closed_at(self, node, closed):
        """Those links of a node that are in a set of links."""
        return closed & self._near_bits[node]

    def goings_behind(self, closed):
        """The goings at the closing of a set of links."""
        return {node: self._tables[node][closed & self._near_bits[node]] for node in self._tables}

    def lost_behind(self, closed, goal):
        """The sorted list of the nodes whose walks do not meet a goal at the closing, though they are joined to it."""
        return lost_by(self.goings_behind(closed), self._node_bits, goal)

    def misses_behind(self, closed):
        """The tuples (start, missed) of all starts, sorted, that miss a node at the closing of a set of links."""
        return misses_by(self.goings_behind(closed), self._node_bits, list(self._link_bits))
