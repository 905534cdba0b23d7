"""Checks of lists that are passed."""

from outsigns.basics import are_names, is_count, is_link, is_name, ordered_pair
from outsigns.errors import InvalidCount, InvalidLinks, InvalidNodes
from outsigns.sorting import sorted_links


def is_list(value):
    """Whether a value is accepted where a list is said."""
    return isinstance(value, (list, tuple))


def need_count(many):
    """Raise InvalidCount unless a value is a COUNT."""
    if not is_count(many):
        raise InvalidCount(many)


def is_choice(value, names):
    """Whether a value is a list of different ones of these names."""
    if not is_list(value):
        return False
    seen = {}
    for name in value:
        if not isinstance(name, str) or name not in names or name in seen:
            return False
        seen[name] = True
    return True


def check_nodes(nodes):
    """Raise InvalidNodes unless there is at least one NAME, and all are different."""
    if not is_list(nodes) or len(nodes) == 0:
        raise InvalidNodes(None)
    seen = {}
    for position, node in enumerate(nodes):
        if not is_name(node) or node in seen:
            raise InvalidNodes(position)
        seen[node] = True


def is_link_of(value, names):
    """Whether a value is a link of these names, the keys of a dict, or (None) of any NAMES."""
    if names is None:
        return is_link(value)
    if not isinstance(value, tuple) or len(value) != 2:
        return False
    one, other = value
    if not isinstance(one, str) or not isinstance(other, str) or one == other:
        return False
    return one in names and other in names


def pairs_of(links):
    """The list of some links, each with the lesser name first; None unless they are different tuples of two strings."""
    seen = {}
    for link in links:
        if not isinstance(link, tuple) or len(link) != 2:
            return None
        one, other = link
        if not isinstance(one, str) or not isinstance(other, str) or one == other:
            return None
        seen[link if one < other else (other, one)] = True
    return list(seen) if len(seen) == len(links) else None


def are_all_known(pairs, names):
    """Whether some pairs of strings are of these names, keys of a dict, or (None) of any NAMES."""
    met = {name: True for pair in pairs for name in pair}
    if names is None:
        return are_names(list(met))
    return all([name in names for name in met])


def are_sorted(pairs):
    """Whether some pairs of strings stand in order."""
    before = ()
    for pair in pairs:
        if pair < before:
            return False
        before = pair
    return True


def wrong_position(links, names):
    """The position of the first of some links that is none of these names, or joins what an earlier one joins."""
    seen = {}
    for position, link in enumerate(links):
        if not is_link_of(link, names) or ordered_pair(link[0], link[1]) in seen:
            return position
        seen[ordered_pair(link[0], link[1])] = True
    return None


def checked_links(links, names):
    """The sorted list of these different links, of these names, keys of a dict, or (None) of any; else InvalidLinks."""
    if not is_list(links):
        raise InvalidLinks(None)
    # All together is faster than one by one; which one is wrong is asked only if one is.
    pairs = pairs_of(links)
    if pairs is None or not are_all_known(pairs, names):
        raise InvalidLinks(wrong_position(links, names))
    return pairs if are_sorted(pairs) else sorted_links(pairs)
