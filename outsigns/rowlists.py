"""Rows that are passed as a dict."""

from outsigns.checks import is_choice
from outsigns.errors import InvalidRow
from outsigns.nets import is_node


def is_row(value, neighbours):
    """Whether a value is a list of these neighbours, each once."""
    return is_choice(value, neighbours) and len(value) == len(neighbours)


def rows_by_node(net, rows):
    """A dict from all nodes of a net to their rows, the plain ones where rows has none; else InvalidRow."""
    if rows is not None and not isinstance(rows, dict):
        raise InvalidRow(None)
    given = {} if rows is None else rows
    for node in given:
        if not is_node(net, node):
            raise InvalidRow(None)
    for node in net.nodes():
        if node in given and not is_row(given[node], net.neighbours(node)):
            raise InvalidRow(node)
    return {node: tuple(given.get(node, net.neighbours(node))) for node in net.nodes()}
