"""Signs and rows that are carried over to the small net of a bundle, and closings that are brought back from it."""

from outsigns.bundles import need_bundle
from outsigns.closings import made_closing, need_closing
from outsigns.errors import OtherNet
from outsigns.nets import neighbour_table
from outsigns.rowlists import plain_rows
from outsigns.rows import made_rows, need_rows
from outsigns.signs import made_signs, need_few_neighbours, need_signs
from outsigns.sorting import parts_in_order, sorted_names


def brought_back(bundle, closing):
    """The closing of the net that a closing of the small net of a bundle is brought back to."""
    need_bundle(bundle)
    need_closing(closing, bundle.small)
    kept = {link: True for link in bundle.inner()}
    for one, other in bundle.small.links():
        if (one, other) not in closing:
            kept[bundle.tie(one, other)] = True
    return made_closing([link for link in bundle.net.links() if link not in kept])


def need_net_of(net, bundle):
    """Raise OtherNet unless a bundle is one of this net."""
    if net != bundle.net:
        raise OtherNet(net, bundle.net)


def near_inside(bundle):
    """A dict from the nodes in groups to the sorted lists of their neighbours by inner links."""
    return neighbour_table([node for group in bundle.groups() for node in group], bundle.inner())


def ways_out_of(bundle):
    """A dict from the names of groups to dicts from their ties, tuples (node, node outside), to the groups there."""
    found = {group[0]: {} for group in bundle.groups()}
    for one, other in bundle.ties():
        here = bundle.group_of(one)
        there = bundle.group_of(other)
        found[here][(one, other)] = there
        found[there][(other, one)] = here
    return found


def goings_inside(signs, node, near, outs, closed):
    """The goings of signs at a node of a group where, of its ties, those to some groups are closed."""
    left = [name for name in signs.net.neighbours(node)
            if not (name in near[node] or (node, name) in outs and outs[(node, name)] not in closed)]
    return signs.goings(node, tuple(left))


def way_out(goings, outs, known, here, arriving):
    """The group to which one goes out of a group from an arrival on, None if one does not; known keeps them."""
    path = []
    while (here, arriving) not in known:
        # None stands for an arrival from which one does not go out, until one does.
        known[(here, arriving)] = None
        path.append((here, arriving))
        going = goings[here][arriving]
        if (here, going) in outs:
            known[(here, arriving)] = outs[(here, going)]
        elif going is not None:
            arriving = here
            here = going
    for place in path:
        known[place] = known[(here, arriving)]
    return known[(here, arriving)]


def carried_goings(signs, group, near, outs):
    """A dict from all sets of closed neighbours of a group to its goings for the signs that are carried over."""
    tied = {node: True for node, _ in outs}
    still = {node: goings_inside(signs, node, near, outs, ()) for node in group if node not in tied}
    found = {}
    for closed in parts_in_order(sorted_names(list(outs.values()))):
        goings = {**still, **{node: goings_inside(signs, node, near, outs, closed) for node in tied}}
        known = {}
        goes = {None: way_out(goings, outs, known, group[0], None)}
        for node, name in outs:
            if outs[(node, name)] not in closed:
                goes[outs[(node, name)]] = way_out(goings, outs, known, node, name)
        found[closed] = goes
    return found


def carried_row(rows, outs, node, before):
    """The list of the groups to which one goes out by turns, from a node on, until one is back at the one before.

    By a dict of the rows inside the group: only inner links and ties are left in them.
    """
    row = rows[node]
    at = 0 if before is None else row.index(before) + 1
    found = []
    for name in [*row[at:], *row[:at]]:
        if (node, name) in outs:
            found.append(outs[(node, name)])
        elif name != before:
            found.extend(carried_row(rows, outs, name, node))
    return found


def rows_carried(rows, bundle):
    """A dict from all groups of a bundle to their carried rows, by a dict of the rows of its net."""
    near = near_inside(bundle)
    outs_of = ways_out_of(bundle)
    found = {}
    for group in bundle.groups():
        outs = outs_of[group[0]]
        inside = {node: [name for name in rows[node] if name in near[node] or (node, name) in outs] for node in group}
        found[group[0]] = tuple(carried_row(inside, outs, group[0], None))
    return found


def carried(signs, bundle):
    """The signs that are carried over to the small net of a bundle."""
    need_signs(signs)
    need_bundle(bundle)
    need_net_of(signs.net, bundle)
    need_few_neighbours(bundle.small)
    rows = signs.rows_alone()
    if rows is not None:
        return made_signs(bundle.small, rows_carried(rows, bundle), {})
    near = near_inside(bundle)
    outs = ways_out_of(bundle)
    return made_signs(bundle.small, plain_rows(bundle.small), {
        group[0]: carried_goings(signs, group, near, outs[group[0]]) for group in bundle.groups()})


def carried_rows(rows, bundle):
    """The rows that are carried over to the small net of a bundle."""
    need_rows(rows)
    need_bundle(bundle)
    need_net_of(rows.net, bundle)
    return made_rows(bundle.small, rows_carried(rows.as_dict(), bundle))
