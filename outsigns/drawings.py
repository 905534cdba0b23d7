"""Drawings of nets, and which rows have good signs."""

from outsigns.blocks import blocks, cycle_within
from outsigns.breaks import links_at_break
from outsigns.closings import made_closing
from outsigns.darts import are_good, is_ring_piece, tour_of
from outsigns.drawable import can_be_drawn
from outsigns.nets import need_net
from outsigns.rows import made_rows, need_rows
from outsigns.sorting import sorted_names


def has_drawing(net):
    """Whether a net has a drawing."""
    need_net(net)
    return can_be_drawn(net.links())


def drawing(net):
    """The drawing with the number 0, as Rows, or None."""
    parts = blocks(net)
    cycles = block_cycles(net, parts)
    if None in cycles:
        return None
    return drawn_rows(net, cycles, blocks_by_node(net, parts), [0 for _ in parts])


def block_cycles(net, parts):
    """The list of the cycles of blocks of a net; None for a block that has no drawing."""
    return [cycle_within(net, block) for block in parts]


def blocks_by_node(net, parts):
    """A dict from all nodes to the list of the positions, among the sorted blocks, of those in which they lie."""
    found = {node: [] for node in net.near}
    for at, block in enumerate(parts):
        for node in block:
            found[node].append(at)
    return found


def names_along(net, cycle):
    """A dict from the nodes of a block to the lists of their neighbours in it, as its cycle goes on behind them."""
    if len(cycle) == 2:
        return {cycle[0]: [cycle[1]], cycle[1]: [cycle[0]]}
    near = net.near
    found = {node: [] for node in cycle}
    ahead = {}
    for node in cycle:
        # The neighbours so far stand ahead of the node: they come behind it once more round.
        ahead[node] = len(found[node])
        for name in near[node]:
            if name in found:
                found[name].append(node)
    return {node: [*names[ahead[node]:], *names[:ahead[node]]] for node, names in found.items()}


def drawn_rows(net, cycles, orders, directions):
    """The drawing by the cycles and directions of all blocks, and a dict from nodes to the orders of their blocks."""
    along = [names_along(net, cycle) for cycle in cycles]
    rows = {}
    for node in net.near:
        row = []
        for at in orders[node]:
            row.extend(along[at][node] if directions[at] == 0 else along[at][node][::-1])
        rows[node] = tuple(row)
    return made_rows(net, rows)


def is_good_rows(rows):
    """Whether the signs of rows are good."""
    need_rows(rows)
    return are_good(rows.table)


def closing_at_break(rows, kept):
    """The closing of all links of the net of rows but some."""
    left = {link: True for link in kept}
    return made_closing([link for link in rows.net.links() if link not in left])


def least_break(rows):
    """The least break of rows, or None if they are good."""
    need_rows(rows)
    kept = links_at_break(rows.table, rows.net.links())
    return None if kept is None else closing_at_break(rows, kept)


def rows_with(rows, links):
    """The rows of the nodes of some links, without what other links lead to, by a dict of all rows."""
    near = {}
    for one, other in links:
        near.setdefault(one, {})[other] = True
        near.setdefault(other, {})[one] = True
    return {node: [name for name in rows[node] if name in near[node]] for node in near}


def rows_fault(rows):
    """The fault of the walk by rows at the least break with the first start that misses a node, or None."""
    need_rows(rows)
    kept = links_at_break(rows.table, rows.net.links())
    if kept is None:
        return None
    # All links that are open are in one piece; other nodes are alone.
    left = rows_with(rows.table, kept)
    piece = sorted_names(list(left))
    for start in piece:
        # Who starts at a node goes round by its tour, and comes back.
        seen = {node: True for node in tour_of(left, start)}
        if len(seen) < len(piece):
            return (closing_at_break(rows, kept), start, [node for node in piece if node not in seen])
    return None


def ring_pieces(net):
    """The sorted list of the pieces that are rings."""
    need_net(net)
    return [piece for piece in net.pieces() if is_ring_piece(net.near, piece)]
