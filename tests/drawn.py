"""Nets, closings and signs drawn by a number, the same with each Python, and what the package answers of them."""

import hashlib

from outsigns.closings import Closing, open_net
from outsigns.faults import all_closings, faults, fewest_closed, first_fault, is_good, not_turning, star_fault, unused
from outsigns.nets import Net
from outsigns.signs import Signs
from outsigns.walking import is_good_at, met, missed, next_node, walk, walk_nodes

NAMES = ["m", "a", "zz", "b", "ab", "c", "aa", "d", "abcdefgh", "e", "z"]


class Chance:
    """A sequence of numbers that looks random."""

    def __init__(self, seed):
        self.state = seed * 2654435761 % 2 ** 31

    def below(self, many):
        self.state = (self.state * 1103515245 + 12345) % 2 ** 31
        return (self.state >> 8) % many

    def pick(self, values):
        return values[self.below(len(values))]

    def shuffled(self, values):
        left, found = list(values), []
        while left:
            found.append(left.pop(self.below(len(left))))
        return found


def drawn_net(chance, most=10):
    """A net of at most eleven nodes, each with at most eight neighbours, and at most so many links."""
    names = chance.shuffled(NAMES)[:1 + max(chance.below(len(NAMES)), chance.below(len(NAMES)))]
    pairs = [(one, other) for at, one in enumerate(names) for other in names[:at]]
    pairs = chance.shuffled(pairs)
    if chance.below(4) == 0:
        pairs = [pair for pair in pairs if names[0] in pair] + [pair for pair in pairs if names[0] not in pair]
    links, near = [], {name: 0 for name in names}
    for one, other in pairs[:max(chance.below(most + 1), chance.below(most + 1))]:
        if max(near[one], near[other]) < 8:
            links.append((one, other))
            near[one] += 1
            near[other] += 1
    return Net(names, links)


def drawn_signs(chance, net):
    """Signs of drawn rows, often with some entries changed."""
    signs = Signs(net, {node: chance.shuffled(net.neighbours(node)) for node in net.nodes() if chance.below(3)})
    often = chance.pick([0, 0, 2, 10, 50])
    for node in net.nodes():
        for closed, arriving, _ in list(signs.entries(node)):
            if chance.below(100) < often:
                left = [name for name in net.neighbours(node) if name not in closed]
                signs[node, chance.shuffled(closed), arriving] = chance.pick([None, *left])
    return signs


def walks_at(signs, closing):
    """What is told of the walks at one closing."""
    net = signs.net
    told = [is_good_at(signs, closing), open_net(net, closing)]
    for start in net.nodes():
        told.append([walk(signs, closing, start), met(signs, closing, start), missed(signs, closing, start)])
        told.append([list(walk_nodes(signs, closing, start, 9)), closing.at(start)])
        told.append([next_node(signs, closing, start, arriving) for arriving in [None, *net.neighbours(start)]
                     if (start, arriving) not in closing])
    return told


def answers(seed):
    """The digest of what the package tells of drawn signs."""
    chance = Chance(seed)
    net = drawn_net(chance)
    signs = drawn_signs(chance, net)
    told = [net, [list(signs.entries(node)) for node in net.nodes()], signs == signs.copy()]
    told += [signs.differences(Signs(net)), list(faults(signs)), first_fault(signs), is_good(signs)]
    told += [fewest_closed(signs), unused(signs), not_turning(signs), star_fault(signs)]
    closings = list(all_closings(net))
    some = [chance.pick(closings) for _ in range(12)]
    told += [[closing, walks_at(signs, closing)] for closing in some]
    told += [[one | other, one & other, one - other, one < other, str(one)] for one, other in zip(some, some[1:])]
    other = drawn_net(chance, 30)
    told += [net | other, other - other.links()[0] if other.size else None, net.is_part_of(net | other)]
    told += [(net | other) & other, Closing(other.links()) | some[0], other.pieces(), other.without(other.nodes()[0])
             if len(other) > 1 else None]
    return hashlib.sha256(repr(told).encode()).hexdigest()[:16]
