"""Blocks of a net, their cycles and their chords."""

from outsigns.basics import ordered_pair
from outsigns.checks import is_list
from outsigns.errors import InvalidNodes
from outsigns.nets import links_within, need_net
from outsigns.sorting import sorted_lists, sorted_names


class BlockSearch:
    """A search through a net, by a table of neighbours: it goes as deep as it can and finds the blocks on its way back.

    Each node has a number, in the sequence in which they are reached, and the least number of a node that is reached by
    one link from it or from those behind it.
    """

    def __init__(self, near):
        self._near = near
        self._number = {}
        self._least = {}
        self._path = []
        self._found = []

    def found_blocks(self):
        """The blocks found, as sorted lists."""
        return self._found

    def visit(self, node, before):
        """Go to a node, unless one was there, and through all that is joined to it but by the node before."""
        if node in self._number:
            return
        self._number[node] = len(self._number)
        self._least[node] = self._number[node]
        self._path.append(node)
        for other in self._near[node]:
            if other not in self._number:
                self.visit(other, node)
                self.note_reached(node, self._least[other])
                if self._least[other] >= self._number[node]:
                    self.take_block(node, other)
            elif other != before:
                self.note_reached(node, self._number[other])

    def note_reached(self, node, number):
        """Note that one comes to the node of a number from a node or from those behind it."""
        if number < self._least[node]:
            self._least[node] = number

    def take_block(self, node, other):
        """Keep the block of a node and of all that was reached from another one and is in no block yet."""
        at = self._path.index(other)
        self._found.append(sorted_names([node, *self._path[at:]]))
        self._path = self._path[:at]


def blocks(net):
    """The sorted list of the blocks, as sorted lists."""
    need_net(net)
    search = BlockSearch({node: net.neighbours(node) for node in net.nodes()})
    for node in net.nodes():
        search.visit(node, None)
    return sorted_lists(search.found_blocks())


def cut_nodes(net):
    """The sorted list of the nodes that lie in two or more blocks."""
    many = {}
    for block in blocks(net):
        for node in block:
            many[node] = many.get(node, 0) + 1
    return sorted_names([node for node in many if many[node] > 1])


def cycle_of(net, block):
    """The cycle of a block, None if the block has no drawing."""
    need_block(net, block)
    return cycle_within(net, list(block))


def chords(net, block):
    """The sorted list of the chords of a block, [] if it has no drawing."""
    need_block(net, block)
    cycle = cycle_within(net, list(block))
    if cycle is None:
        return []
    beside = {ordered_pair(node, cycle[at - 1]): True for at, node in enumerate(cycle)}
    return [link for link in links_within(net.links(), cycle) if link not in beside]


def need_block(net, block):
    """Raise an error unless a value is a block of a net, as blocks returns it."""
    need_net(net)
    if not is_list(block) or list(block) not in blocks(net):
        raise InvalidNodes(None)


def cycle_within(net, block):
    """The cycle of what surely is a block, None if it has no drawing."""
    if len(block) == 2:
        return block
    near = {node: {} for node in block}
    for one, other in links_within(net.links(), block):
        near[one][other] = True
        near[other][one] = True
    taken = take_off(near)
    cycle = put_back(list(near), taken) if len(near) == 3 else None
    return None if cycle is None else turned(cycle, block[0])


def take_off(near):
    """Take nodes with two neighbours off a block, by a table that is changed, as long as more than three are left.

    The two neighbours are joined in the place of the node. Returned is the list of the tuples (node, one, other) of the
    nodes taken off and their neighbours.
    """
    taken = []
    waiting = [node for node in near if len(near[node]) == 2]
    while len(near) > 3 and len(waiting) > 0:
        node = waiting.pop()
        if node in near:
            one, other = list(near[node])
            del near[node]
            del near[one][node]
            del near[other][node]
            near[one][other] = True
            near[other][one] = True
            waiting.extend([name for name in (one, other) if len(near[name]) == 2])
            taken.append((node, one, other))
    return taken


def put_back(cycle, taken):
    """A cycle of three nodes with all that was taken off; None if a node does not fit between its neighbours."""
    for node, one, other in taken[::-1]:
        at = cycle.index(one)
        by = cycle.index(other)
        if (at + 1) % len(cycle) == by:
            cycle.insert(at + 1, node)
        elif (by + 1) % len(cycle) == at:
            cycle.insert(by + 1, node)
        else:
            # Something else fits there: with it, there are three ways between the two that all have nodes.
            return None
    return cycle


def turned(cycle, first):
    """A cycle that begins with a node and goes on to the lesser one of the two beside it."""
    at = cycle.index(first)
    found = [*cycle[at:], *cycle[:at]]
    if found[-1] < found[1]:
        return [first, *found[:0:-1]]
    return found
