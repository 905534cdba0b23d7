"""How long tours are, and how many links a walk passes until it has met what is joined."""

from outsigns.blocks import blocks
from outsigns.drawable import can_be_drawn
from outsigns.errors import NoDrawing
from outsigns.faults import is_good
from outsigns.meeting import nodes_joined
from outsigns.nets import need_net, need_node
from outsigns.search import Search, need_few_links
from outsigns.signs import need_signs
from outsigns.walking import goings_at, need_walk


def tour_length(net, node):
    """The length of the tours of drawings of a net from a node."""
    need_net(net)
    need_node(net, node)
    if not can_be_drawn(net.links()):
        raise NoDrawing()
    piece = net.piece_of(node)
    if len(piece) == 1:
        return 1
    return sum([len(block) for block in blocks(net) if block[0] in piece])


def steps_by_node(goings, start):
    """A dict from the nodes that the walk from a node meets to the steps until it first does, ascending."""
    found = {start: 0}
    seen = {}
    steps = 0
    arriving = None
    here = start
    while (here, arriving) not in seen:
        seen[(here, arriving)] = True
        going = goings[here][arriving]
        if going is None:
            return found
        steps = steps + 1
        arriving = here
        here = going
        if here not in found:
            found[here] = steps
    return found


def steps_to(signs, closing, start, goal):
    """The steps of the walk from a start to a goal, None if it does not meet it."""
    need_walk(signs, closing, start)
    need_node(signs.net, goal)
    return steps_by_node(goings_at(signs, closing), start).get(goal)


def most_steps(goings, start):
    """The steps of the walk from a start to all nodes that are joined to it, None if it misses one."""
    found = steps_by_node(goings, start)
    # A walk comes only to what is joined to its start.
    if len(found) < len(nodes_joined(goings, start)):
        return None
    return list(found.values())[-1]


def steps_to_all(signs, closing, start):
    """The steps to all of the walk from a start, None if it misses a node."""
    need_walk(signs, closing, start)
    return most_steps(goings_at(signs, closing), start)


def longest(signs):
    """The first tuple (steps, closing, start) of the greatest steps to all, None if the signs are not good."""
    need_signs(signs)
    need_few_links(signs.net)
    if not is_good(signs):
        return None
    return Search(signs).longest()
