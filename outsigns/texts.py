"""Texts of nets and of rows, and what they tell."""

from outsigns.basics import is_name
from outsigns.errors import InvalidText
from outsigns.nets import Net, made_net, need_net
from outsigns.rowlists import is_row
from outsigns.rows import made_rows, need_rows


def net_text(net):
    """The text of a net."""
    need_net(net)
    nodes = [f"node {node}\n" for node in net.nodes()]
    return "".join([*nodes, *[f"link {one} {other}\n" for one, other in net.links()]])


def rows_text(rows):
    """The text of rows."""
    need_rows(rows)
    table = rows.as_dict()
    return "".join([" ".join(["row", f"{node}:", *table[node]]) + "\n" for node in table])


def whole_lines(text):
    """The list of the lines of a text that have a line feed; else, if a value is no string, InvalidText."""
    if not isinstance(text, str):
        raise InvalidText(None)
    return text.split("\n")[:-1]


def need_end(text, lines):
    """Raise InvalidText with the line behind these lines if a text does not end with them."""
    if len(text) > sum([len(line) + 1 for line in lines]):
        raise InvalidText(len(lines) + 1)


def is_next_node(words, nodes, links):
    """Whether the words of a line tell a node that may stand behind these nodes and links."""
    if len(words) != 2 or words[0] != "node" or not is_name(words[1]):
        return False
    if len(links) > 0 or len(nodes) == Net.MOST_NODES:
        return False
    return len(nodes) == 0 or nodes[-1] < words[1]


def is_next_link(words, nodes, links):
    """Whether the words of a line tell a link that may stand behind these nodes and links."""
    if len(words) != 3 or words[0] != "link" or len(links) == Net.MOST_LINKS:
        return False
    if words[1] not in nodes or words[2] not in nodes or words[1] >= words[2]:
        return False
    return len(links) == 0 or links[-1] < (words[1], words[2])


def read_net(text):
    """The net of a text."""
    lines = whole_lines(text)
    nodes = []
    links = []
    for at, line in enumerate(lines):
        words = line.split(" ")
        if is_next_node(words, nodes, links):
            nodes.append(words[1])
        elif is_next_link(words, nodes, links):
            links.append((words[1], words[2]))
        else:
            raise InvalidText(at + 1)
    need_end(text, lines)
    if len(nodes) == 0:
        raise InvalidText(1)
    return made_net(nodes, links)


def row_told(net, node, words):
    """The row that the words of a line tell, a tuple; None unless it is one of this node."""
    if words[:2] != ["row", f"{node}:"] or not is_row(words[2:], net.neighbours(node)):
        return None
    return tuple(words[2:])


def read_rows(net, text):
    """The rows of a net that a text tells."""
    need_net(net)
    lines = whole_lines(text)
    nodes = net.nodes()
    rows = {}
    for at, line in enumerate(lines):
        row = row_told(net, nodes[at], line.split(" ")) if at < len(nodes) else None
        if row is None:
            raise InvalidText(at + 1)
        rows[nodes[at]] = row
    need_end(text, lines)
    if len(rows) < len(nodes):
        raise InvalidText(len(lines) + 1)
    return made_rows(net, rows)
