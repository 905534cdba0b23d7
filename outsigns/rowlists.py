"""Rows that are passed as a dict."""

from outsigns.checks import is_choice
from outsigns.errors import InvalidRow
from outsigns.nets import is_node


def is_row(value, neighbours):
    """Whether a value is a list of these neighbours, each once."""
    return is_choice(value, neighbours) and len(value) == len(neighbours)


def plain_rows(net):
    """A dict from all nodes of a net to their plain rows."""
    return {node: tuple(row) for node, row in net.near.items()}


def rows_by_node(net, rows):
    """A dict from all nodes of a net to their rows, the plain ones where rows has none; else InvalidRow."""
    if rows is None:
        return plain_rows(net)
    if not isinstance(rows, dict):
        raise InvalidRow(None)
    for node in rows:
        if not is_node(net, node):
            raise InvalidRow(None)
    near = net.near
    for node in near:
        if node in rows and not is_row(rows[node], near[node]):
            raise InvalidRow(node)
    return {node: tuple(rows.get(node, row)) for node, row in near.items()}
