"""Signs: where to go on at each node, by its closed links and the link by which one arrives."""

from outsigns.checks import is_choice
from outsigns.errors import InvalidEntry, InvalidRow, InvalidSigns, OtherNet, TooMany
from outsigns.nets import need_net, need_node
from outsigns.rowlists import is_row, rows_by_node
from outsigns.sorting import parts_in_order, sorted_names, sorted_parts


def goings_of_row(row, closed):
    """The goings of a row where some neighbours are closed.

    Goings are a dict from None, then the neighbours that are not closed, to where one goes on.
    """
    left = [name for name in row if name not in closed] if len(closed) > 0 else row
    if len(left) == 0:
        return {None: None}
    # One goes on to the first one if one starts or arrives from the last one.
    return dict(zip([None, *left], [*left, left[0]]))


def is_round(goings):
    """Whether the goings lead from a neighbour that is not closed through all of them and back, as [32] says."""
    # None is always the first key.
    first = list(goings)[1]
    here = goings[first]
    steps = 1
    while here is not None and here != first and steps < len(goings):
        here = goings[here]
        steps = steps + 1
    return here == first and steps == len(goings) - 1


def closed_key(near, closed):
    """The sorted tuple of a list of different ones of the neighbours of a node; else InvalidEntry."""
    if not is_choice(closed, near):
        raise InvalidEntry(closed)
    return tuple(closed) if len(closed) < 2 else tuple(sorted_names(closed))


def need_open(value, near, closed):
    """Raise InvalidEntry unless a value is None or one of the neighbours of a node, and not closed."""
    if value is not None and not (isinstance(value, str) and value in near and value not in closed):
        raise InvalidEntry(value)


class Signs:
    """The signs of a net; their entries can be changed."""

    MOST_NEIGHBOURS = 8

    def __init__(self, net, rows=None):
        need_net(net)
        row_of = rows_by_node(net, rows)
        need_few_neighbours(net)
        self._net = net
        self._row_of = row_of
        # Goings that were asked for, by node and closed neighbours; those of the sets in _own may be none of the row.
        self._asked = {node: {} for node in row_of}
        self._own = {node: {} for node in row_of}

    @classmethod
    def of_rows(cls, net, **rows):
        """The signs of rows that are given by keywords."""
        return cls(net, rows)

    @property
    def net(self):
        """The net."""
        return self._net

    def __iter__(self):
        raise TypeError("signs are not iterated over")

    def __getitem__(self, at):
        node, closed, arriving = place_of(self._net, at)
        return goings_now(self, node, closed)[arriving]

    def __setitem__(self, at, worth):
        node, closed, arriving = place_of(self._net, at)
        need_open(worth, self._net.near[node], closed)
        self.goings(node, closed)[arriving] = worth
        self._own[node][closed] = True

    def goings(self, node, closed):
        """The goings of a node for a sorted tuple of closed neighbours; only the signs change them."""
        asked = self._asked[node]
        if closed not in asked:
            asked[closed] = goings_of_row(self._row_of[node], closed)
        return asked[closed]

    def goings_at(self, closed):
        """A dict from all nodes to their goings, by a dict of closed neighbours; only the signs change them."""
        found = {}
        for node in self._row_of:
            key = closed.get(node, ())
            goings = self._asked[node].get(key)
            found[node] = self.goings(node, key) if goings is None else goings
        return found

    def row_at(self, node):
        """The row of a node, None if entries of it were changed one by one."""
        return self._row_of[node] if len(self._own[node]) == 0 else None

    def rows_below(self):
        """A dict, which nobody changes, from all nodes to the rows that tell what was not changed one by one."""
        return self._row_of

    def rows_alone(self):
        """The same, None if anything was changed one by one."""
        return None if any([len(own) > 0 for own in self._own.values()]) else self._row_of

    def set_row(self, node, row):
        """Make all entries of a node those of a row."""
        need_node(self._net, node)
        if not is_row(row, self._net.neighbours(node)):
            raise InvalidRow(node)
        # A new dict: rows that these signs were made of stay.
        self._row_of = {**self._row_of, node: tuple(row)}
        self._asked[node] = {}
        self._own[node] = {}

    def entries(self, node):
        """Yield all entries of a node as tuples (closed, arriving, going)."""
        need_node(self._net, node)
        near = self._net.near[node]
        arrivals = [None, *near]
        asked = self._asked[node]
        for closed in parts_in_order(near):
            goings = asked[closed] if closed in asked else self.goings(node, closed)
            for arriving in arrivals:
                if arriving in goings:
                    yield (closed, arriving, goings[arriving])

    def turns(self, node, closed):
        """Whether the signs turn at a node where these neighbours are closed."""
        need_node(self._net, node)
        near = self._net.near[node]
        key = closed_key(near, closed)
        if len(near) < len(key) + 2:
            raise InvalidEntry(closed)
        return is_round(goings_now(self, node, key))

    def not_turning_at(self, node):
        """The list of the sets of closed neighbours of a node, in order, where the signs do not turn."""
        # Where entries are those of a row they turn.
        if len(self._own[node]) == 0:
            return []
        most = len(self._net.near[node]) - 2
        asked = self._asked[node]
        own = [closed for closed in self._own[node] if len(closed) <= most]
        return sorted_parts([closed for closed in own if not is_round(asked[closed])])

    def copy(self):
        """Signs with the same entries that change independently."""
        return made_signs(self._net, self._row_of, {node: self.own_goings(node) for node in self._own})

    def own_goings(self, node):
        """A dict, all of it new, from those sets of closed neighbours of a node that were changed to the goings."""
        return {closed: dict(self._asked[node][closed]) for closed in self._own[node]}

    def sets_to_compare(self, other, node):
        """The list of the sets of closed neighbours of a node where other signs may tell something else."""
        if self._row_of[node] == other._row_of[node]:
            return list({**self._own[node], **other._own[node]})
        return parts_in_order(self._net.near[node])

    def differences(self, other):
        """The list of the tuples (node, closed, arriving) of the entries that are not as in other signs."""
        need_signs(other)
        if self._net != other._net:
            raise OtherNet(self._net, other._net)
        found = []
        for node in self._row_of:
            for closed in sorted_parts(self.sets_to_compare(other, node)):
                ours = goings_now(self, node, closed)
                theirs = goings_now(other, node, closed)
                if ours != theirs:
                    arrivals = [None, *names_left(self._net, node, closed)]
                    found.extend([(node, closed, name) for name in arrivals if ours[name] != theirs[name]])
        return found

    def __eq__(self, other):
        if not isinstance(other, Signs) or self._net != other._net:
            return False
        for node in self._row_of:
            for closed in self.sets_to_compare(other, node):
                if goings_now(self, node, closed) != goings_now(other, node, closed):
                    return False
        return True


def need_few_neighbours(net):
    """Raise TooMany if a node of a net has too many neighbours for signs."""
    if any([len(names) > Signs.MOST_NEIGHBOURS for names in net.near.values()]):
        raise TooMany("neighbours", Signs.MOST_NEIGHBOURS)


def goings_now(signs, node, closed):
    """The goings of signs at a node for a sorted tuple of closed neighbours, without keeping them."""
    if closed in signs._asked[node]:
        return signs._asked[node][closed]
    return goings_of_row(signs._row_of[node], closed)


def made_signs(net, rows, own):
    """The signs of rows of a net, a dict that nobody changes, but for some goings.

    These are given by a dict from some nodes to dicts from sets of closed neighbours to goings; nobody else holds them.
    """
    made = Signs(net)
    made._row_of = rows
    for node in own:
        made._asked[node] = own[node]
        made._own[node] = {closed: True for closed in own[node]}
    return made


def names_left(net, node, closed):
    """The sorted list of the neighbours of a node that are not closed."""
    return [name for name in net.neighbours(node) if name not in closed]


def place_of(net, at):
    """The node, the sorted tuple of closed neighbours and the one to arrive from of a subscript; else an error."""
    if not isinstance(at, tuple) or len(at) != 3:
        raise InvalidEntry(at)
    node, closed, arriving = at
    need_node(net, node)
    near = net.near[node]
    key = closed_key(near, closed)
    need_open(arriving, near, key)
    return node, key, arriving


def need_signs(signs):
    """Raise InvalidSigns unless a value is Signs."""
    if not isinstance(signs, Signs):
        raise InvalidSigns(signs)
