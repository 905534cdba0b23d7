"""Faults of signs at all closings, unused entries, and where signs do not turn."""

from outsigns.basics import ordered_pair
from outsigns.checks import is_choice
from outsigns.closings import closings_of, made_closing
from outsigns.darts import are_good
from outsigns.errors import InvalidNeighbours
from outsigns.meeting import are_all_met, bits_met, bits_of
from outsigns.nets import need_net, need_node
from outsigns.search import Search, any_of, need_few_links
from outsigns.signs import names_left, need_signs
from outsigns.sorting import parts_in_order
from outsigns.walking import misses_at


def need_search(signs):
    """Raise an error unless a value is Signs of a net with few links."""
    need_signs(signs)
    need_few_links(signs.net)


def are_good_by_rows(signs):
    """Whether signs surely are good, as those of rows that are good."""
    rows = signs.rows_alone()
    return rows is not None and are_good(rows)


def all_closings(net):
    """Yield all closings of links of a net, in order."""
    need_net(net)
    need_few_links(net)
    parts = parts_in_order(net.links())
    yield from closings_of(parts)


def early_parts(net):
    """The list of the sets of at most one link, in order, as tuples.

    Most signs that are not good have a fault at one of these, which is found sooner than all together.
    """
    return [(), *[(link,) for link in net.links()]]


def faults(signs):
    """Yield all faults of signs, in order."""
    need_search(signs)
    # The first ones sooner than all the others together.
    for start, nodes in misses_at(signs, made_closing(())):
        yield (made_closing(()), start, nodes)
    search = Search(signs)
    missed = search.missed()
    at_all = {start: any_of([held for _, held in missed[start]]) for start in missed}
    numbers, parts = search.later_in_order(any_of(list(at_all.values())))
    marked = {start: search.marks(at_all[start]) for start in missed}
    marks = {start: [(node, search.marks(held)) for node, held in missed[start]] for start in missed}
    for number, closing in zip(numbers, list(closings_of(parts))):
        for start in missed:
            if marked[start][number] == "1":
                yield (closing, start, [node for node, text in marks[start] if text[number] == "1"])


def first_fault(signs):
    """The first fault of signs, or None."""
    need_search(signs)
    if are_good_by_rows(signs):
        return None
    parts = early_parts(signs.net)
    for early in closings_of(parts):
        for start, nodes in misses_at(signs, early):
            return (early, start, nodes)
    for fault in faults(signs):
        return fault
    return None


def is_good_early(signs):
    """Whether signs are good at all closings of at most one link."""
    links = signs.net.links()
    bits = bits_of(signs.net.nodes())
    for closed in [{}, *[{one: (other,), other: (one,)} for one, other in links]]:
        goings = signs.goings_at(closed)
        if not are_all_met(goings, links, bits_met(goings, bits)):
            return False
    return True


def is_good(signs):
    """Whether signs are good at each closing."""
    need_search(signs)
    if signs.rows_alone() is not None:
        return are_good(signs.rows_alone())
    if not is_good_early(signs):
        return False
    search = Search(signs)
    for goal in signs.net.nodes():
        if not search.does_serve(goal):
            return False
    return True


def fewest_closed(signs):
    """The least number of closed links of a fault, or None."""
    fault = first_fault(signs)
    # Faults are in order by the number of links first.
    return None if fault is None else len(fault[0])


def unused(signs):
    """The list of the tuples (node, closed, arriving) of the entries that no walk asks."""
    need_search(signs)
    search = Search(signs)
    arrivals = search.arrivals()
    return [(node, closed, name) for node in signs.net.nodes() for closed, name in search.unused_at(node, arrivals)]


def not_turning(signs):
    """The list of the tuples (node, closed) where signs do not turn."""
    need_signs(signs)
    return [(node, closed) for node in signs.net.nodes() for closed in signs.not_turning_at(node)]


def star(net, node, neighbours):
    """The closing of all links of a net but those from a node to these neighbours."""
    need_net(net)
    need_node(net, node)
    if not is_choice(neighbours, net.neighbours(node)):
        raise InvalidNeighbours(neighbours)
    kept = {ordered_pair(node, name): True for name in neighbours}
    return made_closing([link for link in net.links() if link not in kept])


def star_fault(signs):
    """The first fault at the star where signs first do not turn; None if they turn everywhere."""
    need_signs(signs)
    for node in signs.net.nodes():
        for closed in signs.not_turning_at(node):
            closing = star(signs.net, node, names_left(signs.net, node, closed))
            start, nodes = misses_at(signs, closing)[0]
            return (closing, start, nodes)
    return None
