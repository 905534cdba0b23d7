"""Rounds of darts, by a dict from the nodes, sorted, to their rows."""


def tour_of(rows, node):
    """The list of the nodes on the round of the outer corner of a node, which comes first."""
    found = [node]
    if len(rows[node]) == 0:
        return found
    first = rows[node][0]
    here, there = node, first
    while True:
        row = rows[there]
        at = row.index(here) + 1
        here, there = there, row[at] if at < len(row) else row[0]
        if here == node and there == first:
            return found
        found.append(here)


def names_behind(rows):
    """A dict from all nodes to dicts from the neighbours in their rows to the ones behind them, round about."""
    found = {}
    for node, row in rows.items():
        behind = {}
        before = row[-1] if len(row) > 0 else None
        for name in row:
            behind[before] = name
            before = name
        found[node] = behind
    return found


def rounds_of(rows, near):
    """The sorted list of the rounds, each a list of darts that begins with its least one; near has sorted rows."""
    left = names_behind(rows)
    found = []
    # In order of the darts each round is met first at its least one.
    for node in rows:
        for name in near[node]:
            if node in left[name]:
                darts = []
                here, there = node, name
                while here in left[there]:
                    darts.append((here, there))
                    here, there = there, left[there].pop(here)
                found.append(darts)
    return found


def piece_from(rows, node):
    """The list of the nodes of the piece of a node, which comes first."""
    found = [node]
    seen = {node: True}
    at = 0
    # The list grows while one goes along it.
    while at < len(found):
        fresh = [other for other in rows[found[at]] if other not in seen]
        for other in fresh:
            seen[other] = True
        found.extend(fresh)
        at = at + 1
    return found


def linked_pieces(rows):
    """The list of the pieces that have links, each a list that begins with its least node; these nodes are sorted."""
    found = []
    seen = {}
    for node in rows:
        if node not in seen and len(rows[node]) > 0:
            piece = piece_from(rows, node)
            found.append(piece)
            for other in piece:
                seen[other] = True
    return found


def count_linked(rows):
    """The number of the pieces that have links, and that of their nodes."""
    pieces = 0
    seen = {}
    for node in rows:
        if node not in seen and len(rows[node]) > 0:
            pieces = pieces + 1
            seen[node] = True
            waiting = [node]
            while len(waiting) > 0:
                for other in rows[waiting.pop()]:
                    if other not in seen:
                        seen[other] = True
                        waiting.append(other)
    return pieces, len(seen)


def are_flat(rows):
    """Whether each piece with links has as many rounds as a plane drawing has."""
    # From each dart to the one behind it; a round is taken away as soon as it is counted.
    left = {(row[at - 1], node): (node, row[at]) for node, row in rows.items() for at in range(len(row))}
    pieces, nodes = count_linked(rows)
    # No piece has more rounds, so that none has fewer if all have as many together.
    missing = len(left) // 2 - nodes + 2 * pieces
    for dart in list(left):
        if dart in left:
            missing = missing - 1
            while dart in left:
                dart = left.pop(dart)
    return missing == 0


def are_drawn(rows):
    """Whether rows are flat, and one round of each piece with links has the outer corners of all its nodes."""
    left = {(row[at - 1], node): (node, row[at]) for node, row in rows.items() for at in range(len(row))}
    pieces, nodes = count_linked(rows)
    missing = len(left) // 2 - nodes + 2 * pieces
    outer = 0
    for node, row in rows.items():
        if len(row) > 0 and (row[-1], node) in left:
            outer = outer + 1
            dart = (row[-1], node)
            while dart in left:
                dart = left.pop(dart)
    # Each piece with links has a round with outer corners.
    if outer > pieces:
        return False
    missing = missing - outer
    for dart in list(left):
        if dart in left:
            missing = missing - 1
            while dart in left:
                dart = left.pop(dart)
    return missing == 0


def undrawn_pieces(rows):
    """The list of the pieces with links whose rows are no drawing, as linked_pieces has them."""
    if are_drawn(rows):
        return []
    return [piece for piece in linked_pieces(rows) if not are_drawn({node: rows[node] for node in piece})]


def is_ring_piece(rows, piece):
    """Whether a piece is a ring, by a table of rows or of neighbours."""
    return len(piece) >= 3 and all([len(rows[node]) == 2 for node in piece])


def are_good(rows):
    """Whether the signs of rows are good."""
    if are_drawn(rows):
        return True
    rings = [piece for piece in linked_pieces(rows) if is_ring_piece(rows, piece)]
    if len(rings) == 0:
        return False
    gone = {node: True for piece in rings for node in piece}
    return are_drawn({node: row for node, row in rows.items() if node not in gone})


def without_names(rows, gone):
    """Rows, as tuples, without those neighbours that a dict has for their node."""
    return {node: tuple([name for name in row if name not in gone[node]]) if node in gone else row
            for node, row in rows.items()}
