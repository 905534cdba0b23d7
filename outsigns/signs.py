"""Signs: where to go on at each node, by its closed links and the link by which one arrives."""

from outsigns.checks import is_choice
from outsigns.errors import InvalidEntry, InvalidRow, InvalidSigns, OtherNet, TooMany
from outsigns.nets import Net, need_net, need_node
from outsigns.rowlists import is_row, rows_by_node
from outsigns.sorting import parts_in_order, sorted_names


def goings_of_parts(row):
    """The list of the goings of a row for each set of neighbours that are not closed.

    Goings are a dict from None, then these neighbours, to where one goes on. Those for the neighbours at some positions
    of the row stand at the sum of 1 << position.
    """
    found = [{None: None}]
    lasts = [None]
    for name in row:
        # One neighbour more at the end: the last one so far leads to it, and it leads to the first one.
        more = [{**goings, last: name, name: name if last is None else goings[None]}
                for goings, last in zip(found, lasts)]
        found = [*found, *more]
        lasts = [*lasts, *[name for _ in lasts]]
    return found


def entries_of_row(row):
    """A dict from the sets of closed neighbours, in order, to the goings of the row there."""
    names = sorted_names(row)
    bits = [1 << row.index(name) for name in names]
    goings = goings_of_parts(row)
    # The last goings are those for all neighbours; the closed ones are taken off.
    return {closed: goings[-1 - sum(part)] for closed, part in zip(parts_in_order(names), parts_in_order(bits))}


def is_round(goings):
    """Whether the goings lead from a neighbour that is not closed through all of them and back, as [32] says."""
    # None is always the first key.
    first = list(goings)[1]
    here = goings[first]
    steps = 1
    while here is not None and here != first and steps < len(goings):
        here = goings[here]
        steps = steps + 1
    return here == first and steps == len(goings) - 1


def closed_key(net, node, closed):
    """The sorted tuple of a list of different neighbours of a node; else InvalidEntry."""
    if not is_choice(closed, net.neighbours(node)):
        raise InvalidEntry(closed)
    return tuple(sorted_names(closed))


def need_open(value, names):
    """Raise InvalidEntry unless a value is None or one of the neighbours that are not closed."""
    if value is not None and not (isinstance(value, str) and value in names):
        raise InvalidEntry(value)


class Signs:
    """The signs of a net; their entries can be changed."""

    MOST_NEIGHBOURS = 8

    def __init__(self, net, rows=None):
        need_net(net)
        row_of = rows_by_node(net, rows)
        need_few_neighbours(net)
        self._net = net
        self._table = {node: entries_of_row(row_of[node]) for node in net.nodes()}

    @classmethod
    def of_rows(cls, net, **rows):
        """The signs of rows that are given by keywords."""
        return cls(net, rows)

    @property
    def net(self):
        """The net."""
        return self._net

    def __iter__(self):
        raise TypeError("signs are not iterated over")

    def __getitem__(self, at):
        node, closed, arriving = place_of(self._net, at)
        return self._table[node][closed][arriving]

    def __setitem__(self, at, worth):
        node, closed, arriving = place_of(self._net, at)
        need_open(worth, names_left(self._net, node, closed))
        self._table[node][closed][arriving] = worth

    def goings(self, node, closed):
        """The goings of a node for a sorted tuple of closed neighbours; only the signs change them."""
        return self._table[node][closed]

    def goings_by_closed(self, node):
        """A dict from the sets of closed neighbours of a node, in order, to its goings; only the signs change them."""
        return self._table[node]

    def goings_at(self, closed):
        """A dict from all nodes to their goings, by a dict of closed neighbours; only the signs change them."""
        return {node: self._table[node][closed.get(node, ())] for node in self._table}

    def set_row(self, node, row):
        """Make all entries of a node those of a row."""
        need_node(self._net, node)
        if not is_row(row, self._net.neighbours(node)):
            raise InvalidRow(node)
        self._table[node] = entries_of_row(row)

    def entries(self, node):
        """Yield all entries of a node as tuples (closed, arriving, going)."""
        need_node(self._net, node)
        arrivals = [None, *self._net.neighbours(node)]
        for closed in self._table[node]:
            goings = self._table[node][closed]
            for arriving in arrivals:
                if arriving in goings:
                    yield (closed, arriving, goings[arriving])

    def turns(self, node, closed):
        """Whether the signs turn at a node where these neighbours are closed."""
        need_node(self._net, node)
        key = closed_key(self._net, node, closed)
        if len(self._net.neighbours(node)) < len(key) + 2:
            raise InvalidEntry(closed)
        return is_round(self._table[node][key])

    def not_turning_at(self, node):
        """The list of the sets of closed neighbours of a node, in order, where the signs do not turn."""
        most = len(self._net.neighbours(node)) - 2
        table = self._table[node]
        return [closed for closed in table if len(closed) <= most and not is_round(table[closed])]

    def copy(self):
        """Signs with the same entries that change independently."""
        return made_signs(self._net, {node: copied_entries(self._table[node]) for node in self._table})

    def differences(self, other):
        """The list of the tuples (node, closed, arriving) of the entries that are not as in other signs."""
        need_signs(other)
        if self._net != other._net:
            raise OtherNet(self._net, other._net)
        found = []
        for node in self._table:
            for closed in self._table[node]:
                ours = self._table[node][closed]
                theirs = other._table[node][closed]
                if ours != theirs:
                    arrivals = [None, *names_left(self._net, node, closed)]
                    found.extend([(node, closed, name) for name in arrivals if ours[name] != theirs[name]])
        return found

    def __eq__(self, other):
        return isinstance(other, Signs) and self._net == other._net and self._table == other._table


def need_few_neighbours(net):
    """Raise TooMany if a node of a net has too many neighbours for signs."""
    if any([len(net.neighbours(node)) > Signs.MOST_NEIGHBOURS for node in net.nodes()]):
        raise TooMany("neighbours", Signs.MOST_NEIGHBOURS)


def made_signs(net, table):
    """The signs of a net with a table of all its entries that nobody else holds."""
    # Made of a small net first: all entries of the rows of this one would be made for nothing.
    made = Signs(Net(("a",)))
    made._net = net
    made._table = table
    return made


def names_left(net, node, closed):
    """The sorted list of the neighbours of a node that are not closed."""
    return [name for name in net.neighbours(node) if name not in closed]


def place_of(net, at):
    """The node, the sorted tuple of closed neighbours and the one to arrive from of a subscript; else an error."""
    if not isinstance(at, tuple) or len(at) != 3:
        raise InvalidEntry(at)
    node, closed, arriving = at
    need_node(net, node)
    key = closed_key(net, node, closed)
    need_open(arriving, names_left(net, node, key))
    return node, key, arriving


def copied_entries(entries):
    """A copy of the dict of the entries of a node that shares nothing with it."""
    return {closed: dict(entries[closed]) for closed in entries}


def need_signs(signs):
    """Raise InvalidSigns unless a value is Signs."""
    if not isinstance(signs, Signs):
        raise InvalidSigns(signs)
