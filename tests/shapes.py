"""Nets of many shapes, with and without drawings, drawn by chance."""

from outsigns.nets import Net
from values import many_names

KNOTS = [
    Net.full("a", "b", "c", "d"),
    Net.of(*[(one, other) for one in "ab" for other in "cde"]),
    Net.of(*[(one, other) for one in "ab" for other in "cde"]) + ("a", "b"),
    Net.full("a", "b", "c", "d", "e"),
    Net.ring("a", "b", "c", "d", "e", "f") + ("a", "d") + ("b", "e"),
    Net.of(*[(one, other) for one in "abc" for other in "def"]),
]


def drawn_ring(chance, names, chords):
    """A ring of these names in any sequence, with at most so many chords that do not cross."""
    nodes = chance.shuffled(names)
    net = Net.ring(*nodes)
    parts = [nodes]
    while chords > 0 and parts:
        part = parts.pop(chance.below(len(parts)))
        if len(part) > 3:
            low = chance.below(len(part) - 2)
            high = low + 2 + chance.below(len(part) - low - 2)
            if (low, high) != (0, len(part) - 1):
                net = net + (part[low], part[high])
                parts += [part[low:high + 1], part[:low + 1] + part[high:]]
                chords -= 1
            elif chance.below(3):
                parts.append(part)
    return net


def glued(chance, names, most):
    """Rings with chords, and links, glued at nodes, in one piece or more, and perhaps nodes outside; with a drawing."""
    left = chance.shuffled(names)
    net = Net([left.pop()])
    while left:
        many = min(len(left), 1 + chance.below(most))
        fresh = [left.pop() for _ in range(many)]
        kind = chance.below(8)
        if kind == 0:
            net = net | Net(fresh)
            continue
        at = chance.pick(net.nodes()) if kind > 1 else fresh.pop()
        if len(fresh) > 1:
            net = net | drawn_ring(chance, [at, *fresh], chance.below(len(fresh)))
        else:
            net = net | Net.path(at, *fresh)
    return net


def ladder():
    """Sixty nodes in thirty rungs: a ring with chords."""
    names = many_names(60)
    return Net(names, [(names[at], names[at + 2]) for at in range(58)]
               + [(names[at], names[at + 1]) for at in range(0, 60, 2)])


def subdivided(chance, net, names):
    """A net with further nodes set on its links."""
    for name in names:
        one, other = chance.pick(net.links())
        net = (net - (one, other)) | Net.path(one, name, other)
    return net


def star(many):
    """A node hub that is joined to so many leaves."""
    return Net.of(*[("hub", name) for name in many_names(many)])
