"""Closings, open nets, and nets whose closing changes."""

from outsigns.basics import is_link, is_name, ordered_pair
from outsigns.checks import checked_links
from outsigns.errors import InvalidClosing, InvalidName, LinkTaken, TooMany, UnknownLink
from outsigns.nets import Net, less_links, need_link, need_links, need_net
from outsigns.sorting import sorted_links


class Closing:
    """A set of closed links; it never changes."""

    def __init__(self, links=()):
        # Closings that are made of others begin as empty ones: these are not checked.
        self._links = () if links == () else tuple(few_links(checked_links(links, None)))
        self._closed = None
        self._ends = None

    @staticmethod
    def of(*links):
        """The closing of these links."""
        return Closing(links)

    @staticmethod
    def all_of(net):
        """The closing of all links of a net."""
        need_net(net)
        return made_closing(net.links())

    def links(self):
        """The sorted list of the links."""
        return list(self._links)

    @property
    def closed(self):
        """A dict with the links, which nobody changes."""
        if self._closed is None:
            self._closed = {link: True for link in self._links}
        return self._closed

    def place(self):
        """The tuple by which closings are in order."""
        return (len(self._links), self._links)

    def at(self, node):
        """The sorted list of the nodes to which the links lead from this one."""
        if not is_name(node):
            raise InvalidName(node)
        # Of sorted links, those from a lesser node come ahead of those to a greater one: the list comes out sorted.
        return [other if one == node else one for one, other in self._links if node in (one, other)]

    def ends(self):
        """A dict, which nobody changes, from the nodes with links here to the sorted tuples of where these lead."""
        # Kept, since walks at one closing are asked from many starts.
        if self._ends is None:
            self._ends = ends_of(self._links)
        return self._ends

    def __or__(self, other):
        need_some_closing(other)
        more = [link for link in other._links if link not in self.closed]
        return made_closing(sorted_links([*self._links, *more]))

    def __and__(self, other):
        need_some_closing(other)
        return made_closing([link for link in self._links if link in other.closed])

    def __sub__(self, other):
        need_some_closing(other)
        return made_closing([link for link in self._links if link not in other.closed])

    def __contains__(self, x):
        return is_link(x) and ordered_pair(x[0], x[1]) in self.closed

    def __len__(self):
        return len(self._links)

    def __eq__(self, other):
        return isinstance(other, Closing) and self.place() == other.place()

    def __lt__(self, other):
        if not isinstance(other, Closing):
            return NotImplemented
        return self.place() < other.place()

    def __le__(self, other):
        if not isinstance(other, Closing):
            return NotImplemented
        return self.place() <= other.place()

    def __gt__(self, other):
        if not isinstance(other, Closing):
            return NotImplemented
        return self.place() > other.place()

    def __ge__(self, other):
        if not isinstance(other, Closing):
            return NotImplemented
        return self.place() >= other.place()

    def __str__(self):
        if len(self._links) == 0:
            return "-"
        return " ".join([f"{one}-{other}" for one, other in self._links])

    def __repr__(self):
        return f"Closing({list(self._links)!r})"


def ends_of(links):
    """A dict from the nodes of sorted links to the sorted tuples of the nodes to which these lead."""
    found = {}
    for one, other in links:
        found.setdefault(one, []).append(other)
        found.setdefault(other, []).append(one)
    return {node: tuple(found[node]) for node in found}


def few_links(links):
    """These links, if they are not too many for a closing; else TooMany."""
    if len(links) > Net.MOST_LINKS:
        raise TooMany("links", Net.MOST_LINKS)
    return links


def made_closing(links):
    """The closing of links that surely are right and sorted; else (too many) TooMany."""
    made = Closing()
    made._links = tuple(few_links(links))
    return made


def closings_of(lists):
    """Yield the closings of tuples of links that surely are right, sorted and few."""
    for links in lists:
        made = Closing()
        made._links = links
        yield made


def need_some_closing(closing):
    """Raise InvalidClosing unless a value is a Closing."""
    if not isinstance(closing, Closing):
        raise InvalidClosing(closing)


def need_closing(closing, net):
    """Raise an error unless a value is a Closing of links of a net."""
    need_some_closing(closing)
    need_links(net, closing._links)


def open_net(net, closing):
    """The net of all nodes and the open links."""
    need_net(net)
    need_closing(closing, net)
    return less_links(net, closing.closed)


class Site:
    """A net with a closing that changes."""

    def __init__(self, net):
        need_net(net)
        self._net = net
        self._closing = Closing()

    @property
    def net(self):
        """The net."""
        return self._net

    @property
    def closing(self):
        """The closing."""
        return self._closing

    @closing.setter
    def closing(self, value):
        need_closing(value, self._net)
        self._closing = value

    def set_closing(self, closing):
        """Close just the links of a closing."""
        need_closing(closing, self._net)
        self._closing = closing

    def __iadd__(self, other):
        need_link(self._net, other)
        if other in self._closing:
            raise LinkTaken(other)
        self._closing = self._closing | Closing.of(other)
        return self

    def __isub__(self, other):
        if other not in self._closing:
            raise UnknownLink(other)
        self._closing = self._closing - Closing.of(other)
        return self

    def __ior__(self, other):
        need_closing(other, self._net)
        self._closing = self._closing | other
        return self

    def __contains__(self, x):
        return x in self._closing

    def __len__(self):
        return len(self._closing)

    def open_net(self):
        """The net of all nodes and the links that are open now."""
        return open_net(self._net, self._closing)

    def copy(self):
        """A site with the same closing that changes independently."""
        other = Site(self._net)
        other.set_closing(self._closing)
        return other
