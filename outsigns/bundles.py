"""Bundles: groups of nodes of a net that stand for the nodes of a smaller net."""

from outsigns.basics import is_link, ordered_pair
from outsigns.checks import is_link_of, is_list
from outsigns.errors import InvalidBundle, InvalidPart, OtherNet, UnknownLink
from outsigns.nets import is_node, joined_to, made_net, need_net, need_node, neighbour_table
from outsigns.sorting import sorted_links, sorted_names


def are_groups(net, groups):
    """Whether a value is a list, not empty, of lists of nodes, none empty, all nodes different."""
    if not is_list(groups) or len(groups) == 0:
        return False
    seen = {}
    for group in groups:
        if not is_list(group) or len(group) == 0:
            return False
        for node in group:
            if not is_node(net, node) or node in seen:
                return False
            seen[node] = True
    return True


def names_of_groups(groups):
    """A dict from the nodes of groups to the names of these."""
    return {node: group[0] for group in groups for node in group}


def links_in(net, links, name_of):
    """The sorted list of different links of a net between nodes in groups; None if a value is no list of such."""
    if not is_list(links):
        return None
    seen = {}
    for link in links:
        if not is_link_of(link, name_of) or link not in net or ordered_pair(link[0], link[1]) in seen:
            return None
        seen[ordered_pair(link[0], link[1])] = True
    return sorted_links(list(seen))


def checked_inner(net, groups, name_of, inner):
    """The sorted list of the inner links; else InvalidPart."""
    found = links_in(net, inner, name_of)
    if found is None or any([name_of[one] != name_of[other] for one, other in found]):
        raise InvalidPart("inner")
    near = neighbour_table(list(name_of), found)
    # If all groups are joined, none of them can have too many links where the number of all is right.
    if len(found) != len(name_of) - len(groups):
        raise InvalidPart("inner")
    if any([len(joined_to(near, group[0])) < len(group) for group in groups]):
        raise InvalidPart("inner")
    return found


def checked_ties(net, name_of, ties):
    """A dict from the links of the small net to the ties for which they stand, sorted by these; else InvalidPart."""
    found = links_in(net, ties, name_of)
    if found is None or any([name_of[one] == name_of[other] for one, other in found]):
        raise InvalidPart("ties")
    between = {ordered_pair(name_of[one], name_of[other]): (one, other) for one, other in found}
    if len(between) < len(found):
        raise InvalidPart("ties")
    return between


class Bundle:
    """A bundle of a net; it never changes."""

    def __init__(self, net, groups, inner, ties):
        need_net(net)
        if not are_groups(net, groups):
            raise InvalidPart("groups")
        name_of = names_of_groups(groups)
        self._net = net
        self._name_of = name_of
        self._inner = checked_inner(net, groups, name_of, inner)
        self._tie_of = checked_ties(net, name_of, ties)
        listed = {group[0]: [group[0], *sorted_names(list(group[1:]))] for group in groups}
        self._groups = {name: listed[name] for name in sorted_names(list(listed))}
        self._small = made_net(list(self._groups), sorted_links(list(self._tie_of)))

    @staticmethod
    def single(net):
        """The bundle in which each node is a group and all links are ties."""
        need_net(net)
        return Bundle(net, [[node] for node in net.nodes()], [], net.links())

    @property
    def net(self):
        """The net."""
        return self._net

    def groups(self):
        """The list of the groups, sorted by their names; the first node of each comes first, the others are sorted."""
        return [list(self._groups[name]) for name in self._groups]

    def inner(self):
        """The sorted list of the inner links."""
        return list(self._inner)

    def ties(self):
        """The sorted list of the ties."""
        return list(self._tie_of.values())

    @property
    def small(self):
        """The small net: the names of the groups, and a link for each tie."""
        return self._small

    def group_of(self, node):
        """The name of the group of a node, None if it is in none."""
        need_node(self._net, node)
        return self._name_of.get(node)

    def tie(self, one, other):
        """The tie between the groups with these names."""
        if not is_link((one, other)) or ordered_pair(one, other) not in self._tie_of:
            raise UnknownLink((one, other))
        return self._tie_of[ordered_pair(one, other)]

    @property
    def kind(self):
        """The kind of a knot, "four" or "five"; None if the bundle is no knot."""
        if len(self._small) == 4 and self._small.size == 6:
            return "four"
        return "five" if is_two_to_three(self._small) else None

    def __rshift__(self, other):
        need_bundle(other)
        if self._small != other._net:
            raise OtherNet(self._small, other._net)
        groups = [[node for name in group for node in self._groups[name]] for group in other.groups()]
        kept = [(one, another) for one, another in self._inner if self._name_of[one] in other._name_of]
        return Bundle(self._net, groups, [*kept, *[self._tie_of[link] for link in other._inner]],
                      [self._tie_of[link] for link in other.ties()])

    def __eq__(self, other):
        return (isinstance(other, Bundle) and self._net == other._net and self._groups == other._groups
                and self._inner == other._inner and self._tie_of == other._tie_of)


def is_two_to_three(net):
    """Whether a net has five nodes, two of which are joined to each of the other three, and no other links."""
    if len(net) != 5 or net.size != 6:
        return False
    two = [node for node in net.nodes() if len(net.neighbours(node)) == 3]
    return len(two) == 2 and all([net.neighbours(node) == two for node in net.nodes() if node not in two])


def need_bundle(bundle):
    """Raise InvalidBundle unless a value is a Bundle."""
    if not isinstance(bundle, Bundle):
        raise InvalidBundle(bundle)
