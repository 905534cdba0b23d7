"""Which nodes walks meet at a closing, by its goings: a dict from all nodes to the entries that are asked there.

The entries of a node are a dict from None and the neighbours that are not closed to where one goes on. Sets of nodes
are integers, sums of the bits of their nodes.
"""


def bits_of(nodes):
    """A dict from some nodes to integers with one bit each, different ones."""
    return {node: 1 << at for at, node in enumerate(nodes)}


def bits_behind(goings, bits, known, here, arriving):
    """The bits of the nodes that a walk meets from an arrival on; known keeps them for all arrivals of the walk."""
    path = []
    while here is not None and (here, arriving) not in known:
        # None stands for an arrival of this walk itself, until its bits are known.
        known[(here, arriving)] = None
        path.append((here, arriving))
        going = goings[here][arriving]
        arriving = here
        here = going
    found = 0 if here is None else known[(here, arriving)]
    if found is None:
        found = 0
        for node, _ in path[path.index((here, arriving)):]:
            found = found | bits[node]
    for place in path[::-1]:
        found = found | bits[place[0]]
        known[place] = found
    return found


def bits_met(goings, bits):
    """A dict from all nodes to the bits of the nodes that the walks from them meet."""
    known = {}
    found = {}
    for start in goings:
        here = goings[start][None]
        behind = known.get((here, start))
        if behind is None:
            behind = bits_behind(goings, bits, known, here, start)
        found[start] = bits[start] | behind
    return found


def are_all_met(goings, links, found):
    """Whether walks meet all that is joined to their starts, by the bits that they meet."""
    # They do if those from the two ends of each open link meet the same nodes: each meets its own start.
    return not any([other in goings[one] for one, other in links if found[one] != found[other]])


def nodes_joined(goings, start):
    """The list of the nodes that open links join to a node, itself included."""
    found = {start: True}
    waiting = [start]
    while len(waiting) > 0:
        here = waiting.pop()
        for other in goings[here]:
            if other is not None and other not in found:
                found[other] = True
                waiting.append(other)
    return list(found)


def bits_joined(goings, bits):
    """A dict from all nodes to the bits of the nodes that open links join to them."""
    found = {}
    for start in goings:
        if start not in found:
            piece = nodes_joined(goings, start)
            joined = sum([bits[node] for node in piece])
            for node in piece:
                found[node] = joined
    return found


def misses_by(goings, bits, links):
    """The tuples (start, missed) of all starts, in the sequence of the bits, that miss a node."""
    found = bits_met(goings, bits)
    if are_all_met(goings, links, found):
        return []
    joined = bits_joined(goings, bits)
    wrong = [start for start in bits if found[start] != joined[start]]
    return [(start, [node for node in bits if bits[node] & (joined[start] ^ found[start])]) for start in wrong]


def lost_by(goings, bits, goal):
    """The list of the nodes, in the sequence of the bits, whose walks do not meet a goal that is joined to them."""
    found = bits_met(goings, bits)
    joined = {node: True for node in nodes_joined(goings, goal)}
    return [node for node in bits if node in joined and not found[node] & bits[goal]]
