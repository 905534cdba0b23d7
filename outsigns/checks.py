"""Checks of lists that are passed."""

from outsigns.basics import is_count, is_link, is_name, ordered_pair
from outsigns.errors import InvalidCount, InvalidLinks, InvalidNodes
from outsigns.sorting import sorted_links


def is_list(value):
    """Whether a value is accepted where a list is said."""
    return isinstance(value, (list, tuple))


def need_count(many):
    """Raise InvalidCount unless a value is a COUNT."""
    if not is_count(many):
        raise InvalidCount(many)


def is_choice(value, names):
    """Whether a value is a list of different ones of these names."""
    if not is_list(value):
        return False
    seen = {}
    for name in value:
        if not isinstance(name, str) or name not in names or name in seen:
            return False
        seen[name] = True
    return True


def check_nodes(nodes):
    """Raise InvalidNodes unless there is at least one NAME, and all are different."""
    if not is_list(nodes) or len(nodes) == 0:
        raise InvalidNodes(None)
    seen = {}
    for position, node in enumerate(nodes):
        if not is_name(node) or node in seen:
            raise InvalidNodes(position)
        seen[node] = True


def is_link_of(value, names):
    """Whether a value is a link of these names, the keys of a dict, or (None) of any NAMES."""
    if names is None:
        return is_link(value)
    if not isinstance(value, tuple) or len(value) != 2:
        return False
    one, other = value
    if not isinstance(one, str) or not isinstance(other, str) or one == other:
        return False
    return one in names and other in names


def checked_links(links, names):
    """The sorted list of these different links, of these names, keys of a dict, or (None) of any; else InvalidLinks."""
    if not is_list(links):
        raise InvalidLinks(None)
    seen = {}
    for position, link in enumerate(links):
        if not is_link_of(link, names):
            raise InvalidLinks(position)
        pair = ordered_pair(link[0], link[1])
        if pair in seen:
            raise InvalidLinks(position)
        seen[pair] = True
    return sorted_links(list(seen))
