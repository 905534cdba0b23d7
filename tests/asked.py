"""What the package answers of drawn rows and goals, as digests, the same with each Python."""

import hashlib

from drawn import Chance, drawn_net, drawn_signs
from outsigns.closings import Closing
from outsigns.counting import count_drawings, drawing_at, number_of
from outsigns.drawings import drawing, has_drawing, is_good_rows, least_break, ring_pieces, rows_fault
from outsigns.faults import all_closings, is_good, not_turning, star_fault
from outsigns.goals import first_loss, lost, serves
from outsigns.nets import Net
from outsigns.rows import Rows
from outsigns.signs import Signs
from shapes import glued
from values import many_names


def digest(told):
    return hashlib.sha256(repr(told).encode()).hexdigest()[:16]


def drawn_rows(chance, net):
    """Rows drawn by chance, or a drawing in which perhaps a few neighbours are exchanged."""
    found = drawing(net)
    if found is None or chance.below(4) == 0:
        return Rows(net, {node: chance.shuffled(net.neighbours(node)) for node in net.nodes() if chance.below(4)})
    rows = {node: list(row) for node, row in found.as_dict().items()}
    for _ in range(chance.pick([0, 1, 1, 2, 5])):
        row = rows[chance.pick(net.nodes())]
        if len(row) > 1:
            at, by = chance.below(len(row)), chance.below(len(row))
            row[at], row[by] = row[by], row[at]
    return Rows(net, rows)


def rows_told(chance, rows):
    """What is told of rows of any net."""
    net = rows.net
    told = [rows, rows.rounds(), rows.is_flat, rows.is_drawing, is_good_rows(rows), ring_pieces(net)]
    told += [least_break(rows), rows_fault(rows), [rows.tour(node) for node in net.nodes()], ~rows]
    if net.size:
        told.append(rows - chance.pick(net.links()))
    told.append(rows.opened(Closing([link for link in net.links() if chance.below(3) == 0])))
    told += [has_drawing(net), drawing(net), count_drawings(net)]
    if has_drawing(net):
        number = (chance.below(2 ** 20) * chance.below(2 ** 20)) % count_drawings(net)
        told += [drawing_at(net, number), number_of(drawing_at(net, number))]
    return told


def goals_told(chance, signs):
    """What is told of signs of a net with at most ten links, and of their goals."""
    told = [[serves(signs, goal), first_loss(signs, goal)] for goal in signs.net.nodes()]
    closings = list(all_closings(signs.net))
    for closing in [chance.pick(closings) for _ in range(5)]:
        told += [lost(signs, closing, goal) for goal in signs.net.nodes()]
    return told + [is_good(signs), not_turning(signs), star_fault(signs)]


def small_answers(seed):
    """The digest of what is told of drawn signs and rows of nets with at most ten links."""
    chance = Chance(seed)
    net = drawn_net(chance)
    if seed % 2:
        net = glued(chance, many_names(3 + chance.below(6)), 5)
        for link in chance.shuffled(net.links())[10:]:
            net = net - link
    rows = drawn_rows(chance, net)
    told = [net, rows_told(chance, rows)]
    if max(len(row) for row in rows.as_dict().values()) <= Signs.MOST_NEIGHBOURS:
        told += [[list(rows.signs().entries(node)) for node in net.nodes()], goals_told(chance, rows.signs())]
    return digest([told, goals_told(chance, drawn_signs(chance, drawn_net(chance)))])


def large_answers(seed):
    """The digest of what is told of drawn rows of nets with up to 120 links."""
    chance = Chance(seed)
    names = many_names(5 + chance.below(56))
    kind = chance.below(4)
    if kind < 2:
        net = glued(chance, names, 3 + chance.below(20))
    else:
        net = Net(names)
    for _ in range([0, 1 + chance.below(4), chance.below(60), 60 + chance.below(61)][kind]):
        one, other = chance.shuffled(names)[:2]
        if (one, other) not in net and net.size < 120:
            net = net + (one, other)
    return digest([net, rows_told(chance, drawn_rows(chance, net))])
