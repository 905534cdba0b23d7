"""Rows: the neighbours of each node of a net in a sequence."""

from outsigns.basics import ordered_pair
from outsigns.closings import need_closing
from outsigns.darts import are_drawn, are_flat, rounds_of, tour_of, without_names
from outsigns.errors import InvalidRows
from outsigns.nets import less_links, need_link, need_net, need_node
from outsigns.rowlists import plain_rows, rows_by_node
from outsigns.signs import made_signs


class Rows:
    """The rows of all nodes of a net; they never change."""

    def __init__(self, net, rows=None):
        need_net(net)
        self._net = net
        self._given = None if rows is None else rows_by_node(net, rows)
        self._plain = None

    @property
    def net(self):
        """The net."""
        return self._net

    @property
    def plain(self):
        """A dict, which nobody changes, from the nodes to their plain rows."""
        if self._plain is None:
            self._plain = plain_rows(self._net)
        return self._plain

    @property
    def table(self):
        """A dict, which nobody changes, from the nodes to their rows."""
        return self.plain if self._given is None else self._given

    def __iter__(self):
        raise TypeError("rows are not iterated over")

    def __getitem__(self, at):
        need_node(self._net, at)
        return self.table[at]

    def __invert__(self):
        rows = self.table
        return made_rows(self._net, {node: rows[node][::-1] for node in rows})

    def __sub__(self, other):
        need_link(self._net, other)
        one, another = other
        less = less_links(self._net, {ordered_pair(one, another): True})
        return made_rows(less, without_names(self.table, {one: (another,), another: (one,)}))

    def opened(self, closing):
        """The rows of the open net."""
        need_closing(closing, self._net)
        return made_rows(less_links(self._net, closing.closed), without_names(self.table, closing.ends()))

    def as_dict(self):
        """A dict from the nodes to their rows."""
        return dict(self.table)

    def signs(self):
        """The signs of the rows."""
        return made_signs(self._net, self.table, {})

    def rounds(self):
        """The sorted list of the rounds, each a list of darts that begins with its least one."""
        return rounds_of(self.table, self._net.near)

    @property
    def is_flat(self):
        """Whether each piece with links has as many rounds as a plane drawing has."""
        return are_flat(self.table)

    @property
    def is_drawing(self):
        """Whether the rows are flat, and one round of each piece with links has the outer corners of all its nodes."""
        return are_drawn(self.table)

    def tour(self, node):
        """The list of the nodes on the round of the outer corner of a node, which comes first."""
        need_node(self._net, node)
        return tour_of(self.table, node)

    def __eq__(self, other):
        return isinstance(other, Rows) and self._net == other._net and self.table == other.table

    def __repr__(self):
        return f"Rows({self.table!r})"


def made_rows(net, rows):
    """The rows of a net that surely are right, a dict of tuples with sorted keys that nobody changes."""
    made = Rows(net)
    made._given = rows
    return made


def need_rows(rows):
    """Raise InvalidRows unless a value is Rows."""
    if not isinstance(rows, Rows):
        raise InvalidRows(rows)
