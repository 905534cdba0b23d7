"""Signs that lead to a goal."""

from outsigns.errors import OtherNet
from outsigns.meeting import bits_of, lost_by
from outsigns.nets import need_net, need_node
from outsigns.search import Search, need_few_links
from outsigns.signs import copied_entries, made_signs, need_few_neighbours, need_signs
from outsigns.sorting import parts_in_order
from outsigns.walking import goings_at, need_walk


def lost(signs, closing, goal):
    """The sorted list of the nodes of the goal's piece of the open net whose walks do not meet it."""
    need_walk(signs, closing, goal)
    return lost_by(goings_at(signs, closing), bits_of(signs.net.nodes()), goal)


def serves(signs, goal):
    """Whether the walks from all nodes of the goal's piece meet it, at each closing."""
    return first_loss(signs, goal) is None


def first_loss(signs, goal):
    """The first loss, a tuple (closing, start), or None."""
    need_signs(signs)
    need_node(signs.net, goal)
    need_few_links(signs.net)
    search = Search(signs)
    for many in range(signs.net.size + 1):
        for closed in search.sets_of_links(many):
            wrong = search.lost_behind(closed, goal)
            if len(wrong) > 0:
                return (search.closing_of(closed), wrong[0])
    return None


def goings_to(going, near, closed):
    """The entries of a node for a set of closed neighbours that all go on to the same place."""
    return {arriving: going for arriving in [None, *near] if arriving not in closed}


def entries_to_goal(goal, near, entries):
    """All entries of a goal signs' node that is a neighbour of the goal, made of its entries without the goal."""
    found = {}
    for closed in parts_in_order(near):
        if goal in closed:
            found[closed] = dict(entries[tuple([name for name in closed if name != goal])])
        else:
            found[closed] = goings_to(goal, near, closed)
    return found


def goal_entries(net, goal, node, signs):
    """All entries of a node of the goal signs."""
    near = net.neighbours(node)
    if node == goal:
        return {closed: goings_to(None, near, closed) for closed in parts_in_order(near)}
    if goal in near:
        return entries_to_goal(goal, near, signs.goings_by_closed(node))
    return copied_entries(signs.goings_by_closed(node))


def goal_signs(net, goal, signs):
    """The goal signs for a net, made of signs for the net without the goal."""
    need_net(net)
    need_node(net, goal)
    need_signs(signs)
    less = net.without(goal)
    if less != signs.net:
        raise OtherNet(less, signs.net)
    need_few_neighbours(net)
    return made_signs(net, {node: goal_entries(net, goal, node, signs) for node in net.nodes()})
