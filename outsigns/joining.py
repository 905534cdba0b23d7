"""Links more and links less: which nodes can be joined, and what to close for a drawing."""

from outsigns.basics import is_count
from outsigns.blocks import blocks, cycle_within
from outsigns.closings import made_closing
from outsigns.drawable import can_be_drawn
from outsigns.drawings import blocks_by_node
from outsigns.errors import InvalidNeighbours, InvalidNumber, TooMany
from outsigns.fillings import faces_within
from outsigns.nets import links_along, links_within, need_net, need_node
from outsigns.rows import made_rows, need_rows
from outsigns.sorting import parts_in_order, sorted_links

MOST_CUT = 12


def need_strangers(net, one, other):
    """Raise an error unless two values are different nodes of a net that are no neighbours."""
    need_node(net, one)
    need_node(net, other)
    if one == other or (one, other) in net:
        raise InvalidNeighbours(other)


def can_be_joined(net, one, other):
    """Whether a net with a link between two nodes has a drawing."""
    need_net(net)
    need_strangers(net, one, other)
    return can_be_drawn([*net.links(), (one, other)])


def pairs_at_faces(net, cycles):
    """A dict with the tuples of two nodes of one face, by the cycles of all blocks."""
    return {(one, other): True for cycle in cycles for face in faces_within(net, cycle)
            for one in face for other in face}


def sides_at(cycles):
    """A dict from nodes to the lists of the tuples (node beside it on a cycle, position of the cycle)."""
    found = {}
    for at, cycle in enumerate(cycles):
        # Two nodes have one link between them, and no second one that leads back.
        for one, other in links_along(cycle if len(cycle) == 2 else [*cycle, cycle[0]]):
            found.setdefault(one, []).append((other, at))
            found.setdefault(other, []).append((one, at))
    return found


def nodes_along_sides(sides, node):
    """The list of the nodes to which one comes by one side of each block on a way."""
    found = []
    waiting = [(node, None)]
    while len(waiting) > 0:
        here, before = waiting.pop()
        further = [(other, at) for other, at in sides.get(here, ()) if at != before]
        waiting.extend(further)
        found.extend([other for other, _ in further])
    return found


def joinable(net):
    """The sorted list of the links between nodes that can be joined."""
    need_net(net)
    if not can_be_drawn(net.links()):
        return []
    cycles = [cycle_within(net, block) for block in blocks(net)]
    fits = pairs_at_faces(net, cycles)
    sides = sides_at(cycles)
    nodes = net.nodes()
    for node in nodes:
        for other in nodes_along_sides(sides, node):
            fits[(node, other)] = True
    piece_of = {node: at for at, piece in enumerate(net.pieces()) for node in piece}
    taken = {link: True for link in net.links()}
    pairs = [(one, other) for at, one in enumerate(nodes) for other in nodes[at + 1:] if (one, other) not in taken]
    return [pair for pair in pairs if pair in fits or piece_of[pair[0]] != piece_of[pair[1]]]


def least_cut(net):
    """The first closing, in order, such that the open net has a drawing."""
    need_net(net)
    if net.size > MOST_CUT:
        raise TooMany("links", MOST_CUT)
    # What lies in other blocks is not in the way of a drawing.
    wrong = [block for block in blocks(net) if cycle_within(net, block) is None]
    links = sorted_links([link for block in wrong for link in links_within(net.links(), block)])
    for part in parts_in_order(links):
        if can_be_drawn([link for link in links if link not in part]):
            return made_closing(list(part))


def way_of_blocks(net, one, other):
    """The list of the tuples (enters, leaves, block) of the blocks from one node to another one, None if none leads."""
    need_net(net)
    need_node(net, one)
    need_node(net, other)
    parts = blocks(net)
    lies_in = blocks_by_node(net, parts)
    entered = {}
    reached = {one: None}
    waiting = [one]
    while len(waiting) > 0:
        here = waiting.pop()
        for at in lies_in[here]:
            if at not in entered:
                entered[at] = here
                fresh = [node for node in parts[at] if node not in reached]
                reached.update({node: at for node in fresh})
                waiting.extend(fresh)
    if other not in reached:
        return None
    way = []
    here = other
    while here != one:
        at = reached[here]
        way.append((entered[at], here, parts[at]))
        here = entered[at]
    return way[::-1]


def with_name(row, at, name):
    """A row with a name more, at a position."""
    return (*row[:at], name, *row[at:])


def with_link(rows, one, other, at_one, at_other):
    """The rows of a net with a link more, which stands at these positions in the rows of its nodes."""
    need_rows(rows)
    need_strangers(rows.net, one, other)
    for at, node in ((at_one, one), (at_other, other)):
        if not is_count(at) or at > len(rows[node]):
            raise InvalidNumber(at)
    row_of = rows.as_dict()
    row_of[one] = with_name(row_of[one], at_one, other)
    row_of[other] = with_name(row_of[other], at_other, one)
    return made_rows(rows.net + (one, other), row_of)
