"""What the document says of drawings, blocks and rows, worked out in the plainest way, for small nets."""

import itertools

from outsigns.closings import Closing, open_net
from outsigns.rows import Rows
from values import next_in_row


def closings(net):
    """All closings of links of a net, in order."""
    links = net.links()
    return [Closing(part) for many in range(len(links) + 1) for part in itertools.combinations(links, many)]


def is_joined(net, nodes):
    """Whether some nodes are joined by links between them."""
    nodes = list(nodes)
    seen, waiting = {nodes[0]}, [nodes[0]]
    while waiting:
        for other in net.neighbours(waiting.pop()):
            if other in nodes and other not in seen:
                seen.add(other)
                waiting.append(other)
    return len(seen) == len(nodes)


def plain_blocks(net):
    """The blocks, by trying all sets of nodes."""
    fit = []
    for many in range(2, len(net) + 1):
        for part in itertools.combinations(net.nodes(), many):
            less = [[name for name in part if name != node] for node in part]
            if is_joined(net, part) and all(is_joined(net, left) for left in less):
                fit.append(part)
    return sorted(list(part) for part in fit if not any(set(part) < set(other) for other in fit))


def crosses(cycle, one, other):
    """Whether two links between nodes of a cycle cross."""
    if set(one) & set(other):
        return False
    low, high = sorted(cycle.index(node) for node in one)
    return len([node for node in other if low < cycle.index(node) < high]) == 1


def plain_cycles(net, block):
    """The cycles through all nodes of a block whose chords do not cross, by trying all; they begin as [42] says."""
    if len(block) == 2:
        return [list(block)]
    found = []
    for rest in itertools.permutations(block[1:]):
        cycle = [block[0], *rest]
        if cycle[1] < cycle[-1] and all((node, cycle[at - 1]) in net for at, node in enumerate(cycle)):
            others = plain_chords(net, cycle)
            if not any(crosses(cycle, one, other) for one, other in itertools.combinations(others, 2)):
                found.append(cycle)
    return found


def plain_chords(net, cycle):
    """The links between nodes of a cycle that do not lie on it."""
    beside = [{node, cycle[at - 1]} for at, node in enumerate(cycle)]
    return [link for link in net.links() if set(link) <= set(cycle) and set(link) not in beside]


def plain_rounds(rows):
    """The rounds of rows, a dict, by following each dart."""
    found = []
    for node in sorted(rows):
        for name in sorted(rows[node]):
            darts = [(node, name)]
            while True:
                here, there = darts[-1]
                dart = (there, next_in_row(rows[there], [], here))
                if dart == darts[0]:
                    break
                darts.append(dart)
            if min(darts) == darts[0]:
                found.append(darts)
    return sorted(found)


def plain_kinds(net, rows, piece):
    """Whether the rows, a dict, of a piece are flat, and whether they are a drawing of it."""
    links = [link for link in net.links() if link[0] in piece]
    if not links:
        return True, True
    rounds = [darts for darts in plain_rounds(rows) if darts[0][0] in piece]
    flat = len(rounds) == len(links) - len(piece) + 2
    corners = {(rows[node][-1], node) for node in piece}
    return flat, flat and any(corners <= set(darts) for darts in rounds)


def is_plainly_drawn(net, rows):
    """Whether rows, a dict, are a drawing."""
    return all(plain_kinds(net, rows, piece)[1] for piece in net.pieces())


def all_rows(net):
    """All rows of a net, as dicts."""
    orders = [list(itertools.permutations(net.neighbours(node))) for node in net.nodes()]
    for rows in itertools.product(*orders):
        yield dict(zip(net.nodes(), rows))


def nodes_by_rows(rows, start):
    """The nodes that a walk by rows, a dict, from a node meets, with nothing closed but what they leave out."""
    nodes, arriving = [start], None
    for _ in range(2 * sum(len(row) for row in rows.values()) + 1):
        going = next_in_row(rows[nodes[-1]], [], arriving)
        if going is None:
            break
        arriving = nodes[-1]
        nodes.append(going)
    return set(nodes)


def opened(rows, closing):
    """Rows, a dict, without closed links."""
    return {node: tuple(name for name in rows[node] if (node, name) not in closing) for node in rows}


def plain_faults_at(net, rows, closing):
    """The tuples (start, missed) of the walks by rows, a dict, at a closing."""
    left, found = open_net(net, closing), []
    for start in net.nodes():
        gone = sorted(set(left.piece_of(start)) - nodes_by_rows(opened(rows, closing), start))
        if gone:
            found.append((start, gone))
    return found


def is_plainly_good(net, rows):
    """Whether the walks by rows, a dict, miss nothing at any closing."""
    return not any(plain_faults_at(net, rows, closing) for closing in closings(net))


def plain_least_break(net, rows):
    """The least break of rows, a dict, by the walks at all closings."""
    closed = []
    for link in net.links():
        left = open_net(net, Closing([*closed, link]))
        if not is_plainly_good(left, opened(rows, Closing([*closed, link]))):
            closed.append(link)
    return Closing(closed)


def drawn_rows(chance, net):
    """Rows drawn by chance."""
    return Rows(net, {node: chance.shuffled(net.neighbours(node)) for node in net.nodes()})
