"""Faults of signs at all closings, unused entries, and where signs do not turn."""

from outsigns.basics import link_of
from outsigns.checks import is_choice
from outsigns.closings import Closing
from outsigns.errors import InvalidNeighbours, TooMany
from outsigns.nets import need_net, need_node
from outsigns.signs import names_left, need_signs
from outsigns.sorting import parts_in_order
from outsigns.walking import closed_table, lead_and_loop, misses_at

MOST_SEARCHED = 10


def need_few_links(net):
    """Raise TooMany if a net has too many links to go through all closings."""
    if net.size > MOST_SEARCHED:
        raise TooMany("links", MOST_SEARCHED)


def all_closings(net):
    """Yield all closings of links of a net, in order."""
    need_net(net)
    need_few_links(net)
    for links in parts_in_order(net.links()):
        yield Closing(links)


def faults(signs):
    """Yield all faults of signs, in order."""
    need_signs(signs)
    net = signs.net
    for closing in all_closings(net):
        for start, nodes in misses_at(signs, closing):
            yield (closing, start, nodes)


def first_fault(signs):
    """The first fault of signs, or None."""
    for fault in faults(signs):
        return fault
    return None


def is_good(signs):
    """Whether signs are good at each closing."""
    return first_fault(signs) is None


def fewest_closed(signs):
    """The least number of closed links of a fault, or None."""
    fault = first_fault(signs)
    # Faults are in order by the number of links first.
    return None if fault is None else len(fault[0])


def arrivals(signs, closed, start):
    """The list of the tuples (node, neighbour) of the arrivals of a walk, by a table of closed neighbours."""
    lead, loop = lead_and_loop(signs, closed, start)
    nodes = [*lead, *loop]
    return [(nodes[at], nodes[at - 1]) for at in range(1, len(nodes))]


def used_entries(signs):
    """A dict with the tuples (node, closed, arriving) that a walk asks at some closing, arriving not None."""
    net = signs.net
    used = {}
    for closing in all_closings(net):
        closed = closed_table(net, closing)
        for start in net.nodes():
            for node, arriving in arrivals(signs, closed, start):
                used[(node, closed[node], arriving)] = True
    return used


def unused(signs):
    """The list of the tuples (node, closed, arriving) of the entries that no walk asks."""
    need_signs(signs)
    used = used_entries(signs)
    found = []
    for node in signs.net.nodes():
        for closed, arriving, _ in signs.entries(node):
            if arriving is not None and (node, closed, arriving) not in used:
                found.append((node, closed, arriving))
    return found


def not_turning(signs):
    """The list of the tuples (node, closed) where signs do not turn."""
    need_signs(signs)
    found = []
    for node in signs.net.nodes():
        names = signs.net.neighbours(node)
        for closed in parts_in_order(names):
            if len(closed) + 2 <= len(names) and not signs.turns(node, closed):
                found.append((node, tuple(closed)))
    return found


def star(net, node, neighbours):
    """The closing of all links of a net but those from a node to these neighbours."""
    need_net(net)
    need_node(net, node)
    if not is_choice(neighbours, net.neighbours(node)):
        raise InvalidNeighbours(neighbours)
    kept = [link_of(node, name) for name in neighbours]
    return Closing([link for link in net.links() if link not in kept])


def star_fault(signs):
    """The first fault at the star where signs first do not turn; None if they turn everywhere."""
    wrong = not_turning(signs)
    if len(wrong) == 0:
        return None
    node, closed = wrong[0]
    closing = star(signs.net, node, names_left(signs.net, node, closed))
    start, nodes = misses_at(signs, closing)[0]
    return (closing, start, nodes)
