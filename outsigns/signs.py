"""Signs: where to go on at each node, by its closed links and the link by which one arrives."""

from outsigns.basics import is_name
from outsigns.checks import is_choice
from outsigns.errors import InvalidEntry, InvalidRow, InvalidSigns, OtherNet, TooMany
from outsigns.nets import need_net, need_node
from outsigns.rowlists import is_row, rows_by_node
from outsigns.sorting import parts_in_order, sorted_names


def goings_of_row(row, closed):
    """A dict from None, then the neighbours that are not closed, to where the row goes on from there."""
    left = [name for name in row if name not in closed]
    goings = {None: left[0] if len(left) > 0 else None}
    for name in sorted_names(left):
        goings[name] = left[(left.index(name) + 1) % len(left)]
    return goings


def entries_of_row(row):
    """A dict from the sets of closed neighbours, in order, to the goings of the row there."""
    parts = parts_in_order(sorted_names(row))
    return {tuple(closed): goings_of_row(row, closed) for closed in parts}


def closed_key(net, node, closed):
    """The sorted tuple of a list of different neighbours of a node; else InvalidEntry."""
    if not is_choice(closed, net.neighbours(node)):
        raise InvalidEntry(closed)
    return tuple(sorted_names(closed))


def need_open(value, names):
    """Raise InvalidEntry unless a value is None or one of the neighbours that are not closed."""
    if value is not None and not (is_name(value) and value in names):
        raise InvalidEntry(value)


class Signs:
    """The signs of a net; their entries can be changed."""

    MOST_NEIGHBOURS = 8

    def __init__(self, net, rows=None):
        need_net(net)
        row_of = rows_by_node(net, rows)
        if any([len(net.neighbours(node)) > Signs.MOST_NEIGHBOURS for node in net.nodes()]):
            raise TooMany("neighbours", Signs.MOST_NEIGHBOURS)
        self._net = net
        self._table = {node: entries_of_row(row_of[node]) for node in net.nodes()}

    @classmethod
    def of_rows(cls, net, **rows):
        """The signs of rows that are given by keywords."""
        return cls(net, rows)

    @property
    def net(self):
        """The net."""
        return self._net

    def __iter__(self):
        raise TypeError("signs are not iterated over")

    def __getitem__(self, at):
        node, closed, arriving = place_of(self._net, at)
        return self._table[node][closed][arriving]

    def __setitem__(self, at, worth):
        node, closed, arriving = place_of(self._net, at)
        need_open(worth, names_left(self._net, node, closed))
        self._table[node][closed][arriving] = worth

    def entry_at(self, node, closed, arriving):
        """The entry, as by an index, for what surely is a node, a sorted tuple and a neighbour or None."""
        return self._table[node][closed][arriving]

    def set_row(self, node, row):
        """Make all entries of a node those of a row."""
        need_node(self._net, node)
        if not is_row(row, self._net.neighbours(node)):
            raise InvalidRow(node)
        self._table[node] = entries_of_row(row)

    def entries(self, node):
        """Yield all entries of a node as tuples (closed, arriving, going)."""
        need_node(self._net, node)
        for closed in self._table[node]:
            for arriving in self._table[node][closed]:
                yield (closed, arriving, self._table[node][closed][arriving])

    def turns(self, node, closed):
        """Whether the signs turn at a node where these neighbours are closed."""
        need_node(self._net, node)
        key = closed_key(self._net, node, closed)
        left = names_left(self._net, node, key)
        if len(left) < 2:
            raise InvalidEntry(closed)
        first = left[0]
        here = self._table[node][key][first]
        steps = 1
        while here is not None and here != first and steps < len(left):
            here = self._table[node][key][here]
            steps = steps + 1
        return here == first and steps == len(left)

    def copy(self):
        """Signs with the same entries that change independently."""
        other = Signs(self._net)
        other._table = {node: copied_entries(self._table[node]) for node in self._table}
        return other

    def differences(self, other):
        """The list of the tuples (node, closed, arriving) of the entries that are not as in other signs."""
        need_signs(other)
        if self._net != other._net:
            raise OtherNet(self._net, other._net)
        found = []
        for node in self._table:
            for closed in self._table[node]:
                theirs = other._table[node][closed]
                for arriving, going in self._table[node][closed].items():
                    if going != theirs[arriving]:
                        found.append((node, closed, arriving))
        return found

    def __eq__(self, other):
        return isinstance(other, Signs) and self._net == other._net and self._table == other._table


def names_left(net, node, closed):
    """The sorted list of the neighbours of a node that are not closed."""
    return [name for name in net.neighbours(node) if name not in closed]


def place_of(net, at):
    """The node, the sorted tuple of closed neighbours and the one to arrive from of a subscript; else an error."""
    if not isinstance(at, tuple) or len(at) != 3:
        raise InvalidEntry(at)
    node, closed, arriving = at
    need_node(net, node)
    key = closed_key(net, node, closed)
    need_open(arriving, names_left(net, node, key))
    return node, key, arriving


def copied_entries(entries):
    """A copy of the dict of the entries of a node that shares nothing with it."""
    return {closed: dict(entries[closed]) for closed in entries}


def need_signs(signs):
    """Raise InvalidSigns unless a value is Signs."""
    if not isinstance(signs, Signs):
        raise InvalidSigns(signs)
