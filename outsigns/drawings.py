"""Drawings of nets, and which rows have good signs."""

from outsigns.blocks import blocks, cycle_within
from outsigns.closings import made_closing
from outsigns.darts import is_ring_piece, undrawn_pieces, without_names
from outsigns.nets import need_net
from outsigns.rows import made_rows, need_rows


def has_drawing(net):
    """Whether a net has a drawing."""
    return None not in block_cycles(net, blocks(net))


def drawing(net):
    """The drawing with the number 0, as Rows, or None."""
    parts = blocks(net)
    cycles = block_cycles(net, parts)
    if None in cycles:
        return None
    return drawn_rows(net, cycles, blocks_by_node(net, parts), [0 for _ in parts])


def block_cycles(net, parts):
    """The list of the cycles of blocks of a net; None for a block that has no drawing."""
    return [cycle_within(net, block) for block in parts]


def blocks_by_node(net, parts):
    """A dict from all nodes to the list of the positions, among the sorted blocks, of those in which they lie."""
    found = {node: [] for node in net.nodes()}
    for at, block in enumerate(parts):
        for node in block:
            found[node].append(at)
    return found


def names_behind(cycle, node, direction):
    """The list of the other nodes of a cycle as they come behind a node, in a direction, 0 or 1."""
    at = cycle.index(node)
    found = [*cycle[at + 1:], *cycle[:at]]
    return found if direction == 0 else found[::-1]


def drawn_rows(net, cycles, orders, directions):
    """The drawing by the cycles and directions of all blocks, and a dict from nodes to the orders of their blocks."""
    rows = {}
    for node in net.nodes():
        near = net.neighbours(node)
        row = []
        for at in orders[node]:
            row.extend([name for name in names_behind(cycles[at], node, directions[at]) if name in near])
        rows[node] = tuple(row)
    return made_rows(net, rows)


def are_good(rows):
    """Whether signs are good, by a dict of their rows."""
    return all([is_ring_piece(rows, piece) for piece in undrawn_pieces(rows)])


def is_good_rows(rows):
    """Whether the signs of rows are good."""
    need_rows(rows)
    return are_good(rows.as_dict())


def least_break(rows):
    """The least break of rows, or None if they are good."""
    need_rows(rows)
    left = rows.as_dict()
    if are_good(left):
        return None
    closed = []
    for one, other in rows.net.links():
        less = without_names(left, {one: (other,), other: (one,)})
        if not are_good(less):
            left = less
            closed.append((one, other))
    return made_closing(closed)


def rows_fault(rows):
    """The fault of the walk by rows at the least break with the first start that misses a node, or None."""
    closing = least_break(rows)
    if closing is None:
        return None
    left = rows.opened(closing)
    for start in left.net.nodes():
        # Who starts at a node goes round by its tour, and comes back.
        seen = left.tour(start)
        wrong = [node for node in left.net.piece_of(start) if node not in seen]
        if len(wrong) > 0:
            return (closing, start, wrong)
    return None


def ring_pieces(net):
    """The sorted list of the pieces that are rings."""
    need_net(net)
    near = {node: net.neighbours(node) for node in net.nodes()}
    return [piece for piece in net.pieces() if is_ring_piece(near, piece)]
