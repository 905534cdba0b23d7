"""Knots: what a net without a drawing has, and the way to one."""

from outsigns.basics import ordered_pair
from outsigns.bundles import Bundle
from outsigns.drawable import can_be_drawn, links_kept
from outsigns.errors import HasDrawing, InvalidPart
from outsigns.nets import links_along, need_net, neighbour_table, nodes_of
from outsigns.sorting import sorted_links


def is_knot(net, value):
    """Whether a value is a tuple (groups, inner, ties) that makes a knot of a net."""
    need_net(net)
    if not isinstance(value, tuple) or len(value) != 3:
        return False
    groups, inner, ties = value
    try:
        made = Bundle(net, groups, inner, ties)
    except InvalidPart:
        return False
    return made.kind is not None


def cannot_be_drawn(links):
    """Whether the net of some different links has no drawing."""
    return not can_be_drawn(links)


def ways_between(near, ends):
    """The list of the ways by links from the first of some ends to the next end, by a table of neighbours."""
    found = []
    for first in near[ends[0]]:
        way = [ends[0], first]
        while way[-1] not in ends:
            one, other = near[way[-1]]
            way.append(one if other == way[-2] else other)
        found.append(way)
    return found


def knot_of(net, links):
    """The knot of a net that all of these sorted links make, without any of which there would be a drawing."""
    near = neighbour_table(nodes_of(links), links)
    ends = [node for node in near if len(near[node]) == 3]
    # Such links are those between four nodes, or three ways of two or more links between two nodes.
    if len(ends) == 4:
        return Bundle(net, [[node] for node in ends], [], links)
    ways = ways_between(near, ends)
    insides = [way[1:-1] for way in ways]
    ties = [(way[at], way[at + 1]) for way in ways for at in (0, len(way) - 2)]
    inner = [link for inside in insides for link in links_along(inside)]
    return Bundle(net, [*[[node] for node in ends], *insides], inner, ties)


def find_knot(net):
    """A knot of a net, or None if the net has a drawing."""
    need_net(net)
    links = net.links()
    if can_be_drawn(links):
        return None
    return knot_of(net, links_kept(links, cannot_be_drawn))


def links_drawn_together(links, link):
    """The sorted list of what becomes of some links if the two nodes of one become one, the lesser one."""
    kept, gone = link
    fresh = {}
    for one, other in links:
        if (one, other) != link:
            fresh[ordered_pair(kept if one == gone else one, kept if other == gone else other)] = True
    return sorted_links(list(fresh))


def first_join(links):
    """The first link that can be drawn together so that there still is no drawing, None if there is none."""
    for link in links:
        if cannot_be_drawn(links_drawn_together(links, link)):
            return link
    return None


def reduction(net):
    """The list of the steps (word, link) by which a net without a drawing becomes a small one that has none."""
    need_net(net)
    links = net.links()
    if can_be_drawn(links):
        raise HasDrawing()
    left = links_kept(links, cannot_be_drawn)
    kept = {link: True for link in left}
    steps = [("close", link) for link in links if link not in kept]
    # Joins leave three ways between two nodes, so that no link can be closed behind them.
    link = first_join(left)
    while link is not None:
        steps.append(("join", link))
        left = links_drawn_together(left, link)
        link = first_join(left)
    return steps
