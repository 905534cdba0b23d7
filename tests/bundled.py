"""Bundles for the tests, drawn by chance."""

from drawn import Chance, drawn_net
from outsigns.nets import Net
from shapes import glued
from values import many_names

NET = Net.ring("a", "b", "c", "d", "e", "f") + ("a", "d") + ("b", "e") + ("c", "f") | Net(["x"]) | Net.path("a", "y")
GROUPS = [["b", "a"], ["c"], ["f", "e", "d"]]
INNER = [("b", "a"), ("d", "e"), ("e", "f")]
TIES = [("c", "b"), ("d", "a"), ("f", "c")]


def drawn_bundle(chance, net):
    """A bundle of drawn groups, inner links and ties."""
    groups, inner, left = [], [], chance.shuffled(net.nodes())
    while left:
        group = [left.pop()]
        for _ in range(chance.below(4)):
            pairs = [(one, other) for one in group for other in net.neighbours(one) if other in left]
            if pairs:
                link = chance.pick(pairs)
                inner.append(link)
                group.append(link[1])
                left.remove(link[1])
        if groups and chance.below(5) == 0:
            inner = [link for link in inner if link[0] not in group]
        else:
            groups.append(chance.shuffled(group))
    name = {node: group[0] for group in groups for node in group}
    ties, taken = [], []
    for one, other in chance.shuffled(net.links()):
        pair = {name.get(one), name.get(other)}
        if one in name and other in name and len(pair) == 2 and pair not in taken and chance.below(5):
            ties.append((one, other))
            taken.append(pair)
    return net, groups, inner, ties


def some_bundles(many):
    found = [(NET, GROUPS, INNER, TIES)]
    for seed in range(many):
        chance = Chance(seed)
        net = drawn_net(chance, 25) if chance.below(2) else glued(chance, many_names(15), 6)
        found.append(drawn_bundle(chance, net))
    return found
