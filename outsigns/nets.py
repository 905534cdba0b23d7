"""Nets of nodes and links."""

from outsigns.basics import is_name, ordered_pair
from outsigns.checks import check_nodes, checked_links, is_link_of
from outsigns.errors import InvalidLink, InvalidLinks, InvalidName, InvalidNet, InvalidNodes
from outsigns.errors import LinkTaken, NameTaken, NobodyLeft, TooMany, UnknownLink, UnknownNode
from outsigns.sorting import sorted_links, sorted_names


def neighbour_table(nodes, links):
    """A dict from these nodes to the sorted lists of their neighbours, by sorted links."""
    table = {}
    for node in nodes:
        table[node] = []
    # Of sorted links, those from a lesser node come ahead of those to a greater one: the lists come out sorted.
    for one, other in links:
        table[one].append(other)
        table[other].append(one)
    return table


def joined_to(table, node):
    """The sorted list of the nodes that are joined to this one, itself included, by a table of neighbours."""
    found = {node: True}
    waiting = [node]
    while len(waiting) > 0:
        here = waiting.pop()
        for other in table[here]:
            if other not in found:
                found[other] = True
                waiting.append(other)
    return sorted_names(list(found))


def pieces_of(table):
    """The sorted list of the pieces, each a sorted list, by a table of neighbours with sorted keys."""
    found = []
    seen = {}
    for node in table:
        if node not in seen:
            piece = joined_to(table, node)
            found.append(piece)
            for other in piece:
                seen[other] = True
    return found


def links_within(links, nodes):
    """Those of some links that join two of these nodes."""
    kept = {node: True for node in nodes}
    return [(one, other) for one, other in links if one in kept and other in kept]


def nodes_of(links):
    """The sorted list of the nodes of some links."""
    nodes = {}
    for one, other in links:
        nodes[one] = True
        nodes[other] = True
    return sorted_names(list(nodes))


def need_room(nodes, links):
    """Raise TooMany if there are too many nodes or links for a net."""
    if len(nodes) > Net.MOST_NODES:
        raise TooMany("nodes", Net.MOST_NODES)
    if len(links) > Net.MOST_LINKS:
        raise TooMany("links", Net.MOST_LINKS)


def links_along(nodes):
    """The links between nodes that follow each other."""
    return [(nodes[at], nodes[at + 1]) for at in range(len(nodes) - 1)]


class Net:
    """A net; it never changes."""

    MOST_NODES = 60
    MOST_LINKS = 120

    def __init__(self, nodes, links=()):
        check_nodes(nodes)
        kept = checked_links(links, {node: True for node in nodes})
        need_room(nodes, kept)
        self._nodes = sorted_names(nodes)
        self._links = kept
        self._held = None
        self._near = None

    @staticmethod
    def of(*links):
        """The net of these links and their nodes."""
        if len(links) == 0:
            raise InvalidLinks(None)
        kept = checked_links(links, None)
        return made_net(nodes_of(kept), kept)

    @classmethod
    def path(cls, *nodes):
        """The net in which nodes that follow each other are joined."""
        check_nodes(nodes)
        return cls(nodes, links_along(nodes))

    @classmethod
    def ring(cls, *nodes):
        """The net of a path with a link between the last node and the first one."""
        check_nodes(nodes)
        if len(nodes) < 3:
            raise InvalidNodes(None)
        return cls(nodes, [*links_along(nodes), (nodes[-1], nodes[0])])

    @classmethod
    def full(cls, *nodes):
        """The net in which all nodes are joined to each other."""
        check_nodes(nodes)
        # Asked here, too, so that the links of very many nodes are not made first.
        if len(nodes) > cls.MOST_NODES:
            raise TooMany("nodes", cls.MOST_NODES)
        return cls(nodes, [(nodes[at], nodes[by]) for at in range(len(nodes)) for by in range(at)])

    def nodes(self):
        """The sorted list of the nodes."""
        return list(self._nodes)

    def links(self):
        """The sorted list of the links."""
        return list(self._links)

    @property
    def size(self):
        """The number of links."""
        return len(self._links)

    @property
    def held(self):
        """A dict with the links, which nobody changes."""
        if self._held is None:
            self._held = {link: True for link in self._links}
        return self._held

    @property
    def near(self):
        """A dict, which nobody changes, from the nodes to the sorted lists of their neighbours."""
        if self._near is None:
            self._near = neighbour_table(self._nodes, self._links)
        return self._near

    def __len__(self):
        return len(self._nodes)

    def neighbours(self, node):
        """The sorted list of the neighbours of a node."""
        near = self.near
        if not isinstance(node, str) or node not in near:
            raise UnknownNode(node)
        return list(near[node])

    def pieces(self):
        """The sorted list of the pieces, each a sorted list."""
        return pieces_of(self.near)

    def piece_of(self, node):
        """The sorted list of the nodes of the piece of a node."""
        need_node(self, node)
        return joined_to(self.near, node)

    def without(self, *nodes):
        """The net without these nodes and their links."""
        for node in nodes:
            need_node(self, node)
        left = [node for node in self._nodes if node not in nodes]
        if len(left) == 0:
            raise NobodyLeft()
        return made_net(left, links_within(self._links, left))

    def drawn_together(self, link):
        """The net in which the two nodes of a link have become one."""
        need_link(self, link)
        kept, gone = ordered_pair(link[0], link[1])
        fresh = {node: kept if node == gone else node for node in self._nodes}
        links = {}
        for one, other in self._links:
            if fresh[one] != fresh[other]:
                links[ordered_pair(fresh[one], fresh[other])] = True
        return made_net([node for node in self._nodes if node != gone], sorted_links(list(links)))

    def renamed(self, **names):
        """The net with other names for some nodes, all at once."""
        for node in sorted_names(list(names)):
            need_node(self, node)
        for node in sorted_names(list(names)):
            if not is_name(names[node]):
                raise InvalidName(names[node])
        fresh = {node: names.get(node, node) for node in self._nodes}
        listed = [fresh[node] for node in self._nodes]
        for name in sorted_names(listed):
            if listed.count(name) > 1:
                raise NameTaken(name)
        links = [ordered_pair(fresh[one], fresh[other]) for one, other in self._links]
        return made_net(sorted_names(listed), sorted_links(links))

    def __add__(self, other):
        if not is_link_of(other, self.near):
            raise InvalidLink(other)
        link = ordered_pair(other[0], other[1])
        if link in self.held:
            raise LinkTaken(other)
        return made_net(self._nodes, sorted_links([*self._links, link]))

    def __sub__(self, other):
        need_link(self, other)
        return less_links(self, {ordered_pair(other[0], other[1]): True})

    def __or__(self, other):
        need_net(other)
        nodes = [node for node in other._nodes if node not in self.near]
        links = [link for link in other._links if link not in self.held]
        return made_net(sorted_names([*self._nodes, *nodes]), sorted_links([*self._links, *links]))

    def __and__(self, other):
        need_net(other)
        nodes = [node for node in self._nodes if node in other.near]
        if len(nodes) == 0:
            raise NobodyLeft()
        return made_net(nodes, [link for link in self._links if link in other.held])

    def is_part_of(self, other):
        """Whether another net has all nodes and links of this one."""
        need_net(other)
        if not all([node in other.near for node in self._nodes]):
            return False
        return all([link in other.held for link in self._links])

    def __contains__(self, x):
        if isinstance(x, str):
            return x in self.near
        if not isinstance(x, tuple) or len(x) != 2:
            return False
        one, other = x
        return isinstance(one, str) and isinstance(other, str) and ordered_pair(one, other) in self.held

    def __eq__(self, other):
        return isinstance(other, Net) and self._nodes == other._nodes and self._links == other._links

    def __repr__(self):
        return f"Net({self._nodes!r}, {self._links!r})"


def made_net(nodes, links):
    """The net of nodes and links that surely are right, sorted lists that nobody changes; else (too many) TooMany."""
    need_room(nodes, links)
    # The parts of another net are right: to check them all again would take most of the time.
    made = Net(("a",))
    made._nodes = nodes
    made._links = links
    return made


def less_links(net, gone):
    """A net without those links, each as it is returned, that a dict has."""
    return made_net(net._nodes, [link for link in net._links if link not in gone])


def need_net(net):
    """Raise InvalidNet unless a value is a Net."""
    if not isinstance(net, Net):
        raise InvalidNet(net)


def is_node(net, value):
    """Whether a value is a node of a net."""
    return isinstance(value, str) and value in net.near


def need_node(net, node):
    """Raise UnknownNode unless a value is a node of a net."""
    if not is_node(net, node):
        raise UnknownNode(node)


def need_link(net, link):
    """Raise UnknownLink unless a value is a link of a net."""
    if not isinstance(link, tuple) or link not in net:
        raise UnknownLink(link)


def has_links(net, links):
    """Whether a net has all of these links, each as it is returned."""
    return all([link in net.held for link in links])


def need_links(net, links):
    """Raise UnknownLink with the first of these links, each as it is returned, that a net does not have."""
    for link in links:
        if link not in net.held:
            raise UnknownLink(link)
