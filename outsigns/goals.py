"""Signs that lead to a goal."""

from outsigns.closings import closings_of
from outsigns.errors import OtherNet
from outsigns.faults import early_parts
from outsigns.meeting import bits_of, lost_by
from outsigns.nets import need_net, need_node
from outsigns.rowlists import plain_rows
from outsigns.search import Search, any_of, need_few_links
from outsigns.signs import made_signs, need_few_neighbours, need_signs
from outsigns.sorting import parts_in_order
from outsigns.walking import goings_at, need_walk


def lost(signs, closing, goal):
    """The sorted list of the nodes of the goal's piece of the open net whose walks do not meet it."""
    need_walk(signs, closing, goal)
    return lost_by(goings_at(signs, closing), bits_of(signs.net.nodes()), goal)


def need_goal(signs, goal):
    """Raise an error unless there are Signs of a net with few links, and a goal in it."""
    need_signs(signs)
    need_node(signs.net, goal)
    need_few_links(signs.net)


def early_loss(signs, goal):
    """The first loss at a closing of at most one link, or None."""
    parts = early_parts(signs.net)
    for early in closings_of(parts):
        for start in lost(signs, early, goal):
            return (early, start)
    return None


def serves(signs, goal):
    """Whether the walks from all nodes of the goal's piece meet it, at each closing."""
    need_goal(signs, goal)
    return early_loss(signs, goal) is None and Search(signs).does_serve(goal)


def first_loss(signs, goal):
    """The first loss, a tuple (closing, start), or None."""
    need_goal(signs, goal)
    loss = early_loss(signs, goal)
    if loss is not None:
        return loss
    search = Search(signs)
    lost_at = search.lost(goal)
    if len(lost_at) == 0:
        return None
    number = search.first_of(any_of(list(lost_at.values())))
    return (search.closing_at(number), [start for start in lost_at if lost_at[start] >> number & 1][0])


def goings_to(going, near, closed):
    """The goings of a node for a set of closed neighbours that all lead to the same place."""
    return {arriving: going for arriving in [None, *near] if arriving not in closed}


def goings_beside(goal, near, signs, node):
    """A dict from all sets of closed neighbours of a node beside a goal to its goings for the goal signs."""
    found = {}
    for closed in parts_in_order(near):
        if goal in closed:
            found[closed] = dict(signs.goings(node, tuple([name for name in closed if name != goal])))
        else:
            found[closed] = goings_to(goal, near, closed)
    return found


def goal_goings(net, goal, signs):
    """A dict from all nodes to the goings for the goal signs that are none of their rows without the goal."""
    found = {node: signs.own_goings(node) for node in signs.net.nodes()}
    for node in net.neighbours(goal):
        found[node] = goings_beside(goal, net.neighbours(node), signs, node)
    near = net.neighbours(goal)
    found[goal] = {closed: goings_to(None, near, closed) for closed in parts_in_order(near)}
    return found


def goal_signs(net, goal, signs):
    """The goal signs for a net, made of signs for the net without the goal."""
    need_net(net)
    need_node(net, goal)
    need_signs(signs)
    less = net.without(goal)
    if less != signs.net:
        raise OtherNet(less, signs.net)
    need_few_neighbours(net)
    # What the row of a node beside the goal would tell is changed altogether.
    below = signs.rows_below()
    rows = {node: row if node == goal or goal in row else below[node] for node, row in plain_rows(net).items()}
    return made_signs(net, rows, goal_goings(net, goal, signs))
