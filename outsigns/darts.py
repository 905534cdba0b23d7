"""Rounds of darts, by a dict from the nodes, sorted, to their rows."""

from outsigns.nets import pieces_of
from outsigns.sorting import sorted_names


def name_behind(row, name):
    """The name behind another one in a row; behind the last one comes the first one."""
    return row[(row.index(name) + 1) % len(row)]


def round_from(rows, dart):
    """The list of the darts of the round of a dart, which comes first."""
    found = [dart]
    here, there = dart[1], name_behind(rows[dart[1]], dart[0])
    while (here, there) != dart:
        found.append((here, there))
        here, there = there, name_behind(rows[there], here)
    return found


def rounds_of(rows):
    """The sorted list of the rounds, each a list of darts that begins with its least one."""
    found = []
    seen = {}
    # In order of the darts each round is met first at its least one.
    for node in rows:
        for name in sorted_names(rows[node]):
            if (node, name) not in seen:
                darts = round_from(rows, (node, name))
                found.append(darts)
                for dart in darts:
                    seen[dart] = True
    return found


def tour_of(rows, node):
    """The list of the nodes on the round of the outer corner of a node, which comes first."""
    if len(rows[node]) == 0:
        return [node]
    return [here for here, _ in round_from(rows, (node, rows[node][0]))]


def is_flat_piece(rows, piece, rounds):
    """Whether the rows of a piece with links are flat, by the list of all rounds."""
    held = {node: True for node in piece}
    ends = sum([len(rows[node]) for node in piece])
    many = len([darts for darts in rounds if darts[0][0] in held])
    return many == ends // 2 - len(piece) + 2


def has_outer_round(rows, piece):
    """Whether one round has the outer corners of all nodes of a piece with links."""
    first = piece[0]
    darts = {dart: True for dart in round_from(rows, (first, rows[first][0]))}
    return all([(rows[node][-1], node) in darts for node in piece])


def linked_pieces(rows):
    """The sorted list of the pieces that have links."""
    return [piece for piece in pieces_of(rows) if len(piece) > 1]


def undrawn_pieces(rows):
    """The sorted list of the pieces with links whose rows are no drawing of them."""
    rounds = rounds_of(rows)
    return [piece for piece in linked_pieces(rows)
            if not (is_flat_piece(rows, piece, rounds) and has_outer_round(rows, piece))]


def is_ring_piece(rows, piece):
    """Whether a piece is a ring, by a table of rows or of neighbours."""
    return len(piece) >= 3 and all([len(rows[node]) == 2 for node in piece])


def without_names(rows, gone):
    """Rows, as tuples, without those neighbours that a dict has for their node."""
    return {node: tuple([name for name in rows[node] if name not in gone.get(node, ())]) for node in rows}
