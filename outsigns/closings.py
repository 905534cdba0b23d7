"""Closings, open nets, and nets whose closing changes."""

from outsigns.basics import is_link, is_name, ordered_pair
from outsigns.checks import checked_links
from outsigns.errors import InvalidClosing, InvalidName, LinkTaken, TooMany, UnknownLink
from outsigns.nets import Net, made_net, need_link, need_links, need_net
from outsigns.sorting import sorted_links


class Closing:
    """A set of closed links; it never changes."""

    def __init__(self, links=()):
        kept = checked_links(links, None)
        need_few(kept)
        self._links = kept
        self._place = (len(kept), kept)
        self._closed = {link: True for link in kept}
        self._ends = None

    @staticmethod
    def of(*links):
        """The closing of these links."""
        return Closing(links)

    @staticmethod
    def all_of(net):
        """The closing of all links of a net."""
        need_net(net)
        return made_closing(net.links())

    def links(self):
        """The sorted list of the links."""
        return list(self._links)

    def at(self, node):
        """The sorted list of the nodes to which the links lead from this one."""
        if not is_name(node):
            raise InvalidName(node)
        # Of sorted links, those from a lesser node come ahead of those to a greater one: the list comes out sorted.
        return [other if one == node else one for one, other in self._links if node in (one, other)]

    def ends(self):
        """A dict, which nobody changes, from the nodes with links here to the sorted tuples of where these lead."""
        # Kept, since walks at one closing are asked from many starts.
        if self._ends is None:
            self._ends = ends_of(self._links)
        return self._ends

    def __or__(self, other):
        need_some_closing(other)
        more = [link for link in other._links if link not in self._closed]
        return made_closing(sorted_links([*self._links, *more]))

    def __and__(self, other):
        need_some_closing(other)
        return made_closing([link for link in self._links if link in other._closed])

    def __sub__(self, other):
        need_some_closing(other)
        return made_closing([link for link in self._links if link not in other._closed])

    def __contains__(self, x):
        return is_link(x) and ordered_pair(x[0], x[1]) in self._closed

    def __len__(self):
        return len(self._links)

    def __eq__(self, other):
        return isinstance(other, Closing) and self._place == other._place

    def __lt__(self, other):
        if not isinstance(other, Closing):
            return NotImplemented
        return self._place < other._place

    def __le__(self, other):
        if not isinstance(other, Closing):
            return NotImplemented
        return self._place <= other._place

    def __gt__(self, other):
        if not isinstance(other, Closing):
            return NotImplemented
        return self._place > other._place

    def __ge__(self, other):
        if not isinstance(other, Closing):
            return NotImplemented
        return self._place >= other._place

    def __str__(self):
        if len(self._links) == 0:
            return "-"
        return " ".join([f"{one}-{other}" for one, other in self._links])

    def __repr__(self):
        return f"Closing({self._links!r})"


def ends_of(links):
    """A dict from the nodes of sorted links to the sorted tuples of the nodes to which these lead."""
    found = {}
    for one, other in links:
        found.setdefault(one, []).append(other)
        found.setdefault(other, []).append(one)
    return {node: tuple(found[node]) for node in found}


def need_few(links):
    """Raise TooMany if there are too many links for a closing."""
    if len(links) > Net.MOST_LINKS:
        raise TooMany("links", Net.MOST_LINKS)


def made_closing(links):
    """The closing of links that surely are right, a sorted list that nobody changes; else (too many) TooMany."""
    need_few(links)
    made = Closing()
    made._links = links
    made._place = (len(links), links)
    made._closed = {link: True for link in links}
    return made


def need_some_closing(closing):
    """Raise InvalidClosing unless a value is a Closing."""
    if not isinstance(closing, Closing):
        raise InvalidClosing(closing)


def need_closing(closing, net):
    """Raise an error unless a value is a Closing of links of a net."""
    need_some_closing(closing)
    need_links(net, closing._links)


def open_net(net, closing):
    """The net of all nodes and the open links."""
    need_net(net)
    need_closing(closing, net)
    return made_net(net.nodes(), [link for link in net.links() if link not in closing._closed])


class Site:
    """A net with a closing that changes."""

    def __init__(self, net):
        need_net(net)
        self._net = net
        self._closing = Closing()

    @property
    def net(self):
        """The net."""
        return self._net

    @property
    def closing(self):
        """The closing."""
        return self._closing

    @closing.setter
    def closing(self, value):
        need_closing(value, self._net)
        self._closing = value

    def set_closing(self, closing):
        """Close just the links of a closing."""
        need_closing(closing, self._net)
        self._closing = closing

    def __iadd__(self, other):
        need_link(self._net, other)
        if other in self._closing:
            raise LinkTaken(other)
        self._closing = self._closing | Closing.of(other)
        return self

    def __isub__(self, other):
        if other not in self._closing:
            raise UnknownLink(other)
        self._closing = self._closing - Closing.of(other)
        return self

    def __ior__(self, other):
        need_closing(other, self._net)
        self._closing = self._closing | other
        return self

    def __contains__(self, x):
        return x in self._closing

    def __len__(self):
        return len(self._closing)

    def open_net(self):
        """The net of all nodes and the links that are open now."""
        return open_net(self._net, self._closing)

    def copy(self):
        """A site with the same closing that changes independently."""
        other = Site(self._net)
        other.set_closing(self._closing)
        return other
