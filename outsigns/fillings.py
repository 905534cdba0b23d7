"""Faces of a net that is one block with a drawing, and its fillings: links that may be added until no more may."""

from math import comb

from outsigns.basics import is_count, ordered_pair
from outsigns.blocks import blocks, cycle_within
from outsigns.checks import is_link_of, is_list
from outsigns.errors import InvalidCount, InvalidFilling, InvalidNumber, NoDrawing, NotOneBlock
from outsigns.sorting import sorted_links

MOST_CATALAN = 60


def catalan(many):
    """How many divisions into triangles a list of so many nodes and two has."""
    if not is_count(many) or many > MOST_CATALAN:
        raise InvalidCount(many)
    return comb(2 * many, many) // (many + 1)


def only_cycle(net):
    """The cycle of a net that is one block of three or more nodes with a drawing; else NotOneBlock or NoDrawing."""
    parts = blocks(net)
    if len(parts) != 1 or len(parts[0]) < 3 or len(parts[0]) < len(net):
        raise NotOneBlock(len(parts))
    cycle = cycle_within(net, parts[0])
    if cycle is None:
        raise NoDrawing()
    return cycle


def face_below(ends, low, high):
    """The list of the positions on the cycle of the face between a link and what the cycle has between its ends.

    The link joins two positions; ends has, for each position, the ascending list of the later ones it is joined to.
    """
    found = [low]
    while found[-1] != high:
        here = found[-1]
        # The link that goes farthest bounds the face; what lies below it is on its other side.
        reached = [at for at in ends[here] if at <= high and (here, at) != (low, high)]
        found.append(reached[-1])
    return found


def faces(net):
    """The sorted list of the faces, each the list of its nodes in the sequence of the cycle."""
    return faces_within(net, only_cycle(net))


def faces_within(net, cycle):
    """The sorted list of the faces of the block that has a cycle, each the list of its nodes in this sequence."""
    many = len(cycle)
    place = {node: at for at, node in enumerate(cycle)}
    near = [[place[name] for name in net.neighbours(node) if name in place] for node in cycle]
    ends = [[at for at in range(low + 1, many) if at in near[low]] for low in range(many)]
    # Each face lies below one link, and they are sorted as the ends of these links are.
    found = [face_below(ends, low, high) for low in range(many) for high in ends[low] if high > low + 1]
    return [[cycle[at] for at in face] for face in found]


def ways_to_divide(nodes):
    """How many divisions into triangles a list of nodes has."""
    return catalan(len(nodes) - 2)


def ways_to_divide_all(parts):
    """How many divisions into triangles some faces have together."""
    found = 1
    for face in parts:
        found = found * ways_to_divide(face)
    return found


def count_fillings(net):
    """The number of the fillings of a net."""
    return ways_to_divide_all(faces(net))


def parts_by_third(nodes, third):
    """The two lists into which a triangle with a third node, counted behind the first one, divides a list of nodes."""
    return nodes[:third + 2], nodes[third + 1:]


def ways_with_third(nodes, third):
    """How many divisions of a list of nodes have a triangle of the first, the last and a third node."""
    before, behind = parts_by_third(nodes, third)
    return ways_to_divide(before) * ways_to_divide(behind)


def division_at(nodes, number):
    """The list of the links between nodes that are not beside each other in the division of a list with a number."""
    if len(nodes) == 2:
        return []
    third = 0
    while number >= ways_with_third(nodes, third):
        number = number - ways_with_third(nodes, third)
        third = third + 1
    before, behind = parts_by_third(nodes, third)
    one, other = divmod(number, ways_to_divide(behind))
    sides = [ordered_pair(part[0], part[-1]) for part in (before, behind) if len(part) > 2]
    return [*sides, *division_at(before, one), *division_at(behind, other)]


def division_number(nodes, held):
    """The number of the division of a list of nodes by the links in a dict; None if they do not divide it."""
    if len(nodes) == 2:
        return 0
    number = 0
    for third in range(len(nodes) - 2):
        before, behind = parts_by_third(nodes, third)
        if all([len(part) == 2 or ordered_pair(part[0], part[-1]) in held for part in (before, behind)]):
            one = division_number(before, held)
            other = division_number(behind, held)
            # Links that divide the list have one such triangle alone.
            return None if one is None or other is None else number + one * ways_to_divide(behind) + other
        number = number + ways_with_third(nodes, third)
    return None


def filling_at(net, number):
    """The filling of a net with a number, a sorted list of links."""
    parts = faces(net)
    if not is_count(number) or number >= ways_to_divide_all(parts):
        raise InvalidNumber(number)
    links = []
    left = number
    for face in parts[::-1]:
        left, here = divmod(left, ways_to_divide(face))
        links.extend(division_at(face, here))
    return sorted_links(links)


def fresh_links(net, links):
    """A dict with these different links between nodes that are no neighbours; None if the value is no list of such."""
    if not is_list(links):
        return None
    nodes = {node: True for node in net.nodes()}
    held = {}
    for link in links:
        if not is_link_of(link, nodes) or link in net or ordered_pair(link[0], link[1]) in held:
            return None
        held[ordered_pair(link[0], link[1])] = True
    return held


def number_of_filling(net, links):
    """The number of a filling of a net."""
    parts = faces(net)
    held = fresh_links(net, links)
    # Links that divide all faces are a filling if they are no more than this takes.
    if held is None or len(held) != sum([len(face) - 3 for face in parts]):
        raise InvalidFilling(links)
    number = 0
    for face in parts:
        here = division_number(face, held)
        if here is None:
            raise InvalidFilling(links)
        number = number * ways_to_divide(face) + here
    return number
