"""Checks of lists that are passed."""

from outsigns.basics import is_link, is_name, link_of
from outsigns.errors import InvalidLinks, InvalidNodes
from outsigns.sorting import sorted_links


def is_list(value):
    """Whether a value is accepted where a list is said."""
    return isinstance(value, (list, tuple))


def is_choice(value, names):
    """Whether a value is a list of different ones of these names."""
    if not is_list(value):
        return False
    seen = {}
    for name in value:
        if not is_name(name) or name not in names or name in seen:
            return False
        seen[name] = True
    return True


def check_nodes(nodes):
    """Raise InvalidNodes unless there is at least one NAME, and all are different."""
    if not is_list(nodes) or len(nodes) == 0:
        raise InvalidNodes(None)
    seen = {}
    for position, node in enumerate(nodes):
        if not is_name(node) or node in seen:
            raise InvalidNodes(position)
        seen[node] = True


def joins_known(link, nodes):
    """Whether a value is a link, and of these nodes, unless they are None."""
    if not is_link(link):
        return False
    return nodes is None or (link[0] in nodes and link[1] in nodes)


def checked_links(links, nodes):
    """The sorted list of these different links, of these nodes or (None) of any; else InvalidLinks."""
    if not is_list(links):
        raise InvalidLinks(None)
    seen = {}
    for position, link in enumerate(links):
        if not joins_known(link, nodes):
            raise InvalidLinks(position)
        pair = link_of(link[0], link[1])
        if pair in seen:
            raise InvalidLinks(position)
        seen[pair] = True
    return sorted_links(list(seen))
