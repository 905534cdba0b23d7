"""Nets of nodes and links."""

from outsigns.basics import is_link, is_name, link_of
from outsigns.checks import check_nodes, checked_links
from outsigns.errors import InvalidLink, InvalidLinks, InvalidName, InvalidNet, InvalidNodes
from outsigns.errors import LinkTaken, NameTaken, NobodyLeft, TooMany, UnknownLink, UnknownNode
from outsigns.sorting import sorted_names


def neighbour_table(nodes, links):
    """A dict from these nodes to the sorted lists of their neighbours, by sorted links."""
    table = {}
    for node in nodes:
        table[node] = []
    # Of sorted links, those from a lesser node come ahead of those to a greater one: the lists come out sorted.
    for one, other in links:
        table[one].append(other)
        table[other].append(one)
    return table


def joined_to(table, node):
    """The sorted list of the nodes that are joined to this one, itself included, by a table of neighbours."""
    found = {node: True}
    waiting = [node]
    while len(waiting) > 0:
        here = waiting.pop()
        for other in table[here]:
            if other not in found:
                found[other] = True
                waiting.append(other)
    return sorted_names(list(found))


def links_along(nodes):
    """The links between nodes that follow each other."""
    return [(nodes[at], nodes[at + 1]) for at in range(len(nodes) - 1)]


class Net:
    """A net; it never changes."""

    MOST_NODES = 60
    MOST_LINKS = 120

    def __init__(self, nodes, links=()):
        check_nodes(nodes)
        kept = checked_links(links, nodes)
        if len(nodes) > Net.MOST_NODES:
            raise TooMany("nodes", Net.MOST_NODES)
        if len(kept) > Net.MOST_LINKS:
            raise TooMany("links", Net.MOST_LINKS)
        self._nodes = sorted_names(nodes)
        self._links = kept
        self._near = neighbour_table(self._nodes, kept)

    @staticmethod
    def of(*links):
        """The net of these links and their nodes."""
        if len(links) == 0:
            raise InvalidLinks(None)
        kept = checked_links(links, None)
        nodes = {}
        for one, other in kept:
            nodes[one] = True
            nodes[other] = True
        return Net(list(nodes), kept)

    @classmethod
    def path(cls, *nodes):
        """The net in which nodes that follow each other are joined."""
        check_nodes(nodes)
        return cls(nodes, links_along(nodes))

    @classmethod
    def ring(cls, *nodes):
        """The net of a path with a link between the last node and the first one."""
        check_nodes(nodes)
        if len(nodes) < 3:
            raise InvalidNodes(None)
        return cls(nodes, [*links_along(nodes), (nodes[-1], nodes[0])])

    @classmethod
    def full(cls, *nodes):
        """The net in which all nodes are joined to each other."""
        check_nodes(nodes)
        # Asked here, too, so that the links of very many nodes are not made first.
        if len(nodes) > cls.MOST_NODES:
            raise TooMany("nodes", cls.MOST_NODES)
        return cls(nodes, [(nodes[at], nodes[by]) for at in range(len(nodes)) for by in range(at)])

    def nodes(self):
        """The sorted list of the nodes."""
        return list(self._nodes)

    def links(self):
        """The sorted list of the links."""
        return list(self._links)

    @property
    def size(self):
        """The number of links."""
        return len(self._links)

    def __len__(self):
        return len(self._nodes)

    def neighbours(self, node):
        """The sorted list of the neighbours of a node."""
        need_node(self, node)
        return list(self._near[node])

    def pieces(self):
        """The sorted list of the pieces, each a sorted list."""
        found = []
        seen = {}
        for node in self._nodes:
            if node not in seen:
                piece = joined_to(self._near, node)
                found.append(piece)
                for other in piece:
                    seen[other] = True
        return found

    def piece_of(self, node):
        """The sorted list of the nodes of the piece of a node."""
        need_node(self, node)
        return joined_to(self._near, node)

    def without(self, *nodes):
        """The net without these nodes and their links."""
        for node in nodes:
            need_node(self, node)
        left = [node for node in self._nodes if node not in nodes]
        if len(left) == 0:
            raise NobodyLeft()
        return Net(left, [(one, other) for one, other in self._links if one in left and other in left])

    def drawn_together(self, link):
        """The net in which the two nodes of a link have become one."""
        need_link(self, link)
        kept, gone = link_of(link[0], link[1])
        fresh = {node: kept if node == gone else node for node in self._nodes}
        links = {}
        for one, other in self._links:
            if fresh[one] != fresh[other]:
                links[link_of(fresh[one], fresh[other])] = True
        return Net([node for node in self._nodes if node != gone], list(links))

    def renamed(self, **names):
        """The net with other names for some nodes, all at once."""
        for node in sorted_names(list(names)):
            need_node(self, node)
        for node in sorted_names(list(names)):
            if not is_name(names[node]):
                raise InvalidName(names[node])
        fresh = {node: names.get(node, node) for node in self._nodes}
        listed = [fresh[node] for node in self._nodes]
        for name in sorted_names(listed):
            if listed.count(name) > 1:
                raise NameTaken(name)
        return Net(listed, [(fresh[one], fresh[other]) for one, other in self._links])

    def __add__(self, other):
        if not is_link(other) or other[0] not in self._near or other[1] not in self._near:
            raise InvalidLink(other)
        if other in self:
            raise LinkTaken(other)
        return Net(self._nodes, [*self._links, other])

    def __sub__(self, other):
        need_link(self, other)
        gone = link_of(other[0], other[1])
        return Net(self._nodes, [link for link in self._links if link != gone])

    def __or__(self, other):
        need_net(other)
        nodes = [node for node in other._nodes if node not in self._near]
        links = [link for link in other._links if link not in self._links]
        return Net([*self._nodes, *nodes], [*self._links, *links])

    def __and__(self, other):
        need_net(other)
        nodes = [node for node in self._nodes if node in other._near]
        if len(nodes) == 0:
            raise NobodyLeft()
        return Net(nodes, [link for link in self._links if link in other._links])

    def is_part_of(self, other):
        """Whether another net has all nodes and links of this one."""
        need_net(other)
        if not all([node in other._near for node in self._nodes]):
            return False
        return all([link in other._links for link in self._links])

    def __contains__(self, x):
        if is_link(x):
            return x[0] in self._near and x[1] in self._near[x[0]]
        return is_name(x) and x in self._near

    def __eq__(self, other):
        return isinstance(other, Net) and self._nodes == other._nodes and self._links == other._links

    def __repr__(self):
        return f"Net({self._nodes!r}, {self._links!r})"


def need_net(net):
    """Raise InvalidNet unless a value is a Net."""
    if not isinstance(net, Net):
        raise InvalidNet(net)


def is_node(net, value):
    """Whether a value is a node of a net."""
    return is_name(value) and value in net


def need_node(net, node):
    """Raise UnknownNode unless a value is a node of a net."""
    if not is_node(net, node):
        raise UnknownNode(node)


def need_link(net, link):
    """Raise UnknownLink unless a value is a link of a net."""
    if not is_link(link) or link not in net:
        raise UnknownLink(link)
