"""Rows: the neighbours of each node of a net in a sequence."""

from outsigns.closings import need_closing, open_net
from outsigns.darts import is_flat_piece, linked_pieces, rounds_of, tour_of, undrawn_pieces, without_names
from outsigns.errors import InvalidRows
from outsigns.nets import need_net, need_node
from outsigns.rowlists import rows_by_node
from outsigns.signs import Signs


class Rows:
    """The rows of all nodes of a net; they never change."""

    def __init__(self, net, rows=None):
        need_net(net)
        self._net = net
        self._row_of = rows_by_node(net, rows)

    @property
    def net(self):
        """The net."""
        return self._net

    def __iter__(self):
        raise TypeError("rows are not iterated over")

    def __getitem__(self, at):
        need_node(self._net, at)
        return self._row_of[at]

    def __invert__(self):
        return made_rows(self._net, {node: self._row_of[node][::-1] for node in self._row_of})

    def __sub__(self, other):
        less = self._net - other
        one, another = other
        return made_rows(less, without_names(self._row_of, {one: (another,), another: (one,)}))

    def opened(self, closing):
        """The rows of the open net."""
        need_closing(closing, self._net)
        return made_rows(open_net(self._net, closing), without_names(self._row_of, closing.ends()))

    def as_dict(self):
        """A dict from the nodes to their rows."""
        return dict(self._row_of)

    def signs(self):
        """The signs of the rows."""
        return Signs(self._net, self._row_of)

    def rounds(self):
        """The sorted list of the rounds, each a list of darts that begins with its least one."""
        return rounds_of(self._row_of)

    @property
    def is_flat(self):
        """Whether each piece with links has as many rounds as a plane drawing has."""
        found = rounds_of(self._row_of)
        return all([is_flat_piece(self._row_of, piece, found) for piece in linked_pieces(self._row_of)])

    @property
    def is_drawing(self):
        """Whether the rows are flat, and one round of each piece with links has the outer corners of all its nodes."""
        return len(undrawn_pieces(self._row_of)) == 0

    def tour(self, node):
        """The list of the nodes on the round of the outer corner of a node, which comes first."""
        need_node(self._net, node)
        return tour_of(self._row_of, node)

    def __eq__(self, other):
        return isinstance(other, Rows) and self._net == other._net and self._row_of == other._row_of

    def __repr__(self):
        return f"Rows({self._row_of!r})"


def made_rows(net, rows):
    """The rows of a net that surely are right, a dict of tuples with sorted keys that nobody changes."""
    made = Rows(net)
    made._row_of = rows
    return made


def need_rows(rows):
    """Raise InvalidRows unless a value is Rows."""
    if not isinstance(rows, Rows):
        raise InvalidRows(rows)
