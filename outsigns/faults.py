"""Faults of signs at all closings, unused entries, and where signs do not turn."""

from outsigns.basics import ordered_pair
from outsigns.checks import is_choice
from outsigns.closings import made_closing
from outsigns.errors import InvalidNeighbours
from outsigns.nets import need_net, need_node
from outsigns.search import Search, need_few_links
from outsigns.signs import names_left, need_signs
from outsigns.sorting import parts_of_size
from outsigns.walking import misses_at


def need_search(signs):
    """Raise an error unless a value is Signs of a net with few links."""
    need_signs(signs)
    need_few_links(signs.net)


def all_closings(net):
    """Yield all closings of links of a net, in order."""
    need_net(net)
    need_few_links(net)
    links = net.links()
    for many in range(len(links) + 1):
        for part in parts_of_size(links, many):
            yield made_closing(list(part))


def faults(signs):
    """Yield all faults of signs, in order."""
    need_search(signs)
    search = Search(signs)
    for many in range(signs.net.size + 1):
        for closed in search.sets_of_links(many):
            wrong = search.misses_behind(closed)
            if len(wrong) > 0:
                closing = search.closing_of(closed)
                for start, nodes in wrong:
                    yield (closing, start, nodes)


def first_fault(signs):
    """The first fault of signs, or None."""
    for fault in faults(signs):
        return fault
    return None


def is_good(signs):
    """Whether signs are good at each closing."""
    return first_fault(signs) is None


def fewest_closed(signs):
    """The least number of closed links of a fault, or None."""
    fault = first_fault(signs)
    # Faults are in order by the number of links first.
    return None if fault is None else len(fault[0])


def arrivals(goings):
    """A dict with the tuples (node, neighbour) of the arrivals of all walks."""
    seen = {}
    for start in goings:
        arriving = start
        here = goings[start][None]
        while here is not None and (here, arriving) not in seen:
            seen[(here, arriving)] = True
            going = goings[here][arriving]
            arriving = here
            here = going
    return seen


def used_entries(signs, search):
    """A dict with the tuples (node, its closed links, arriving) that a walk asks at some closing, arriving not None."""
    used = {}
    for many in range(signs.net.size + 1):
        for closed in search.sets_of_links(many):
            for node, arriving in arrivals(search.goings_behind(closed)):
                used[(node, search.closed_at(node, closed), arriving)] = True
    return used


def unused(signs):
    """The list of the tuples (node, closed, arriving) of the entries that no walk asks."""
    need_search(signs)
    search = Search(signs)
    used = used_entries(signs, search)
    found = []
    for node in signs.net.nodes():
        for closed, arriving, _ in signs.entries(node):
            if arriving is not None and (node, search.set_of_links(node, closed), arriving) not in used:
                found.append((node, closed, arriving))
    return found


def not_turning(signs):
    """The list of the tuples (node, closed) where signs do not turn."""
    need_signs(signs)
    return [(node, closed) for node in signs.net.nodes() for closed in signs.not_turning_at(node)]


def star(net, node, neighbours):
    """The closing of all links of a net but those from a node to these neighbours."""
    need_net(net)
    need_node(net, node)
    if not is_choice(neighbours, net.neighbours(node)):
        raise InvalidNeighbours(neighbours)
    kept = {ordered_pair(node, name): True for name in neighbours}
    return made_closing([link for link in net.links() if link not in kept])


def star_fault(signs):
    """The first fault at the star where signs first do not turn; None if they turn everywhere."""
    need_signs(signs)
    for node in signs.net.nodes():
        for closed in signs.not_turning_at(node):
            closing = star(signs.net, node, names_left(signs.net, node, closed))
            start, nodes = misses_at(signs, closing)[0]
            return (closing, start, nodes)
    return None
