"""Blocks of a net, their cycles and their chords."""

from outsigns.basics import ordered_pair
from outsigns.checks import is_list
from outsigns.errors import InvalidNodes
from outsigns.nets import links_within, need_net
from outsigns.sorting import sorted_lists, sorted_names


def blocks_by(near):
    """The list of the blocks, as sorted lists, by a table of neighbours.

    One goes through each piece as deep as one can, and finds the blocks on the way back: the nodes have numbers, in the
    sequence in which they are reached.
    """
    number = {}
    path = []
    found = []

    def visit(node, before):
        """Go to a node, on to all that is joined to it but by the node before, and back.

        Returned is the least number of a node to which a link leads from one of these.
        """
        number[node] = len(number)
        path.append(node)
        least = number[node]
        for other in near[node]:
            if other not in number:
                reached = visit(other, node)
                if reached < least:
                    least = reached
                if reached >= number[node]:
                    at = path.index(other)
                    found.append(sorted_names([node, *path[at:]]))
                    del path[at:]
            elif other != before and number[other] < least:
                least = number[other]
        return least

    for node in near:
        if node not in number:
            visit(node, None)
    return found


def blocks(net):
    """The sorted list of the blocks, as sorted lists."""
    need_net(net)
    return sorted_lists(blocks_by(net.near))


def cut_nodes(net):
    """The sorted list of the nodes that lie in two or more blocks."""
    many = {}
    for block in blocks(net):
        for node in block:
            many[node] = many.get(node, 0) + 1
    return sorted_names([node for node in many if many[node] > 1])


def cycle_of(net, block):
    """The cycle of a block, None if the block has no drawing."""
    need_block(net, block)
    return cycle_within(net, list(block))


def chords(net, block):
    """The sorted list of the chords of a block, [] if it has no drawing."""
    need_block(net, block)
    cycle = cycle_within(net, list(block))
    if cycle is None:
        return []
    beside = {ordered_pair(node, cycle[at - 1]): True for at, node in enumerate(cycle)}
    return [link for link in links_within(net.links(), cycle) if link not in beside]


def need_block(net, block):
    """Raise an error unless a value is a block of a net, as blocks returns it."""
    need_net(net)
    if not is_list(block) or list(block) not in blocks(net):
        raise InvalidNodes(None)


def cycle_within(net, block):
    """The cycle of what surely is a block, None if it has no drawing."""
    if len(block) < 4:
        return block
    inside = {node: True for node in block}
    near = {node: {name: True for name in net.near[node] if name in inside} for node in block}
    taken = take_off(near)
    return cycle_with(list(near), taken, block[0]) if len(near) == 3 else None


def take_off(near):
    """Take nodes with two neighbours off a block, by a table that is changed, as long as more than three are left.

    The two neighbours are joined in the place of the node. Returned is the list of the tuples (node, one, other) of the
    nodes taken off and their neighbours.
    """
    taken = []
    waiting = [node for node in near if len(near[node]) == 2]
    while len(near) > 3 and len(waiting) > 0:
        node = waiting.pop()
        if node in near:
            one, other = list(near[node])
            del near[node]
            del near[one][node]
            del near[other][node]
            near[one][other] = True
            near[other][one] = True
            waiting.extend([name for name in (one, other) if len(near[name]) == 2])
            taken.append((node, one, other))
    return taken


def cycle_with(three, taken, first):
    """The cycle of three nodes with all that was taken off; None if a node does not fit between its neighbours.

    It begins with its first node and goes on to the lesser one of the two beside it.
    """
    one, two, other = three
    after = {one: two, two: other, other: one}
    ahead = {two: one, other: two, one: other}
    for node, one, other in taken[::-1]:
        if after[other] == one:
            one, other = other, one
        elif after[one] != other:
            # Something else fits there: with it, there are three ways between the two that all have nodes.
            return None
        after[one] = ahead[other] = node
        after[node] = other
        ahead[node] = one
    behind = after if after[first] < ahead[first] else ahead
    cycle = [first]
    while behind[cycle[-1]] != first:
        cycle.append(behind[cycle[-1]])
    return cycle
