"""A desk that has nets and rows by names, and performs commands."""

from outsigns.basics import is_name, ordered_pair
from outsigns.closings import made_closing
from outsigns.counting import count_drawings
from outsigns.drawings import drawing, has_drawing, least_break
from outsigns.errors import CommandFailed, InvalidCommand, InvalidRow, LimitError, MissingError, NoDrawing
from outsigns.errors import NothingToUndo, SignError, StateError, UnknownName
from outsigns.nets import Net, need_links, need_node
from outsigns.rowlists import is_row
from outsigns.rows import made_rows
from outsigns.sorting import sorted_links, sorted_names

# How many words stand behind the first one of a command, at least and at most; None for any number.
SIZES = {
    "net": (2, None), "link": (3, 3), "cut": (3, 3), "draw": (2, 2), "row": (2, None), "undo": (0, 0),
    "drawn": (1, 1), "count": (1, 1), "good": (1, 1), "walk": (2, None), "show": (1, 1),
}


def are_different_names(words):
    """Whether some words are different NAMES."""
    return all([is_name(word) for word in words]) and len(set(words)) == len(words)


def link_in_word(word):
    """The link that a word of a command tells, as it is returned; None if it tells none."""
    one, _, other = word.partition("-")
    if not is_name(one) or not is_name(other) or one == other:
        return None
    return ordered_pair(one, other)


def are_different_links(words):
    """Whether some words tell different links."""
    links = [link_in_word(word) for word in words]
    return None not in links and len(set(links)) == len(links)


def words_of(command):
    """The list of the words of a command; else InvalidCommand."""
    if not isinstance(command, str):
        raise InvalidCommand(command)
    words = command.split(" ")
    if not is_command(words):
        raise InvalidCommand(command)
    return words


def is_command(words):
    """Whether some words make a command."""
    if words[0] not in SIZES:
        return False
    least, most = SIZES[words[0]]
    if len(words) <= least or most is not None and len(words) > most + 1:
        return False
    if words[0] == "walk":
        return is_name(words[1]) and is_name(words[2]) and are_different_links(words[3:])
    # The first name stands for a net or for rows: a node may have it, too.
    if words[0] == "draw":
        return is_name(words[1]) and is_name(words[2])
    return are_different_names(words[1:2]) and are_different_names(words[2:])


def held_under(table, name):
    """What a name stands for; else UnknownName."""
    if not isinstance(name, str) or name not in table:
        raise UnknownName(name)
    return table[name]


def first_rows(net):
    """The first drawing of a net; else NoDrawing."""
    found = drawing(net)
    if found is None:
        raise NoDrawing()
    return found


def with_row(rows, node, row):
    """Rows in which a node has another row."""
    need_node(rows.net, node)
    if not is_row(row, rows.net.neighbours(node)):
        raise InvalidRow(node)
    return made_rows(rows.net, {**rows.as_dict(), node: tuple(row)})


def goodness_told(rows):
    """What is told of whether the signs of rows are good."""
    found = least_break(rows)
    return "yes" if found is None else f"no {found}"


def walk_told(rows, start, words):
    """What is told of the walk by rows from a node at the closing of the links that some words tell."""
    need_node(rows.net, start)
    links = sorted_links([link_in_word(word) for word in words])
    need_links(rows.net, links)
    nodes = rows.opened(made_closing(links)).tour(start)
    # Who comes back to the start goes on as at first: only who starts has not arrived there yet.
    loop = [*nodes[1:], start] if len(nodes) > 1 else []
    return " ".join([start, "/", *loop])


def links_told(net):
    """What is told of the links of a net."""
    return " ".join([f"{one}-{other}" for one, other in net.links()]) if net.size > 0 else "-"


class Trial:
    """The time for which a copy of a desk is tried out."""

    def __init__(self, desk):
        self._desk = desk

    def __enter__(self):
        return self._desk

    def __exit__(self, kind, value, trace):
        return None


class Desk:
    """Nets and rows by names, and the commands that made them."""

    def __init__(self):
        # These two dicts are not changed but made anew, so that each command is noted with those ahead of it.
        self._nets = {}
        self._rows = {}
        self._done = []

    def do(self, command):
        """Perform a command and return its answer."""
        words = words_of(command)
        if words[0] in ("net", "link", "cut"):
            self.keep(command, {**self._nets, words[1]: self.net_made(words)}, self._rows)
        elif words[0] in ("draw", "row"):
            self.keep(command, self._nets, {**self._rows, words[1]: self.rows_made(words)})
        elif words[0] == "undo":
            self.take_back()
        else:
            return self.asked(words)
        return "done"

    def net_made(self, words):
        """The net for which the name in a command stands behind it."""
        if words[0] == "net":
            return Net(words[2:])
        net = self.net_of(words[1])
        link = (words[2], words[3])
        return net + link if words[0] == "link" else net - link

    def rows_made(self, words):
        """The rows for which the name in a command stands behind it."""
        if words[0] == "draw":
            return first_rows(self.net_of(words[2]))
        return with_row(self.rows_of(words[1]), words[2], words[3:])

    def asked(self, words):
        """The answer to a command that changes nothing."""
        if words[0] == "good":
            return goodness_told(self.rows_of(words[1]))
        if words[0] == "walk":
            return walk_told(self.rows_of(words[1]), words[2], words[3:])
        net = self.net_of(words[1])
        if words[0] == "drawn":
            return "yes" if has_drawing(net) else "no"
        if words[0] == "count":
            return str(count_drawings(net))
        return links_told(net)

    def keep(self, command, nets, rows):
        """Note a command, and have these nets and rows from now on."""
        self._done.append((command, self._nets, self._rows))
        self._nets = nets
        self._rows = rows

    def take_back(self):
        """Take back the last command."""
        if len(self._done) == 0:
            raise NothingToUndo()
        _, self._nets, self._rows = self._done.pop()

    def copied(self):
        """A desk with the same nets, rows and commands that changes independently."""
        other = Desk()
        other._nets = self._nets
        other._rows = self._rows
        other._done = list(self._done)
        return other

    def do_all(self, *commands):
        """Perform commands and return the list of their answers; all of them, or none if one raises an error."""
        before = self.copied()
        answers = []
        for position, command in enumerate(commands):
            try:
                answers.append(self.do(command))
            except (SignError, MissingError, StateError, LimitError) as wrong:
                self._nets = before._nets
                self._rows = before._rows
                self._done = before._done
                raise CommandFailed(position) from wrong
        return answers

    def trial(self):
        """A context manager that gives a copy of the desk."""
        return Trial(self.copied())

    def tried(self, action):
        """What an action returns that is called with a copy of the desk."""
        return action(self.copied())

    def attempt(self, *commands):
        """The answers of commands that are performed on a copy of the desk."""
        return self.copied().do_all(*commands)

    def names(self):
        """The sorted list of the names of nets, and that of the names of rows."""
        return (sorted_names(list(self._nets)), sorted_names(list(self._rows)))

    def log(self):
        """The list of the commands that can be taken back."""
        return [command for command, _, _ in self._done]

    def net_of(self, name):
        """The net for which a name stands."""
        return held_under(self._nets, name)

    def rows_of(self, name):
        """The rows for which a name stands."""
        return held_under(self._rows, name)
