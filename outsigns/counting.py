"""How many drawings a net has, and their numbers."""

from math import factorial

from outsigns.basics import is_count
from outsigns.blocks import blocks
from outsigns.checks import need_count
from outsigns.drawings import block_cycles, blocks_by_node, drawn_rows
from outsigns.errors import InvalidNumber, NoDrawing
from outsigns.nets import need_net
from outsigns.rows import need_rows


def order_at(items, rank):
    """The permutation of some different items that has a number in lexicographic order."""
    left = list(items)
    found = []
    while len(left) > 0:
        at, rank = divmod(rank, factorial(len(left) - 1))
        found.append(left[at])
        left = [*left[:at], *left[at + 1:]]
    return found


def rank_of(order, items):
    """The number, in lexicographic order, of a permutation of some different items."""
    left = list(items)
    rank = 0
    for item in order:
        at = left.index(item)
        rank = rank + at * factorial(len(left) - 1)
        left = [*left[:at], *left[at + 1:]]
    return rank


class Choices:
    """The choices of which the drawings of a net that has some are made.

    These are an order of its blocks for each node, and a direction for each block of three or more nodes. Blocks stand
    for their positions among the sorted ones.
    """

    def __init__(self, net, parts, cycles):
        self._net = net
        self._cycles = cycles
        self._blocks_at = blocks_by_node(net, parts)

    def how_many(self):
        """The number of the drawings."""
        found = 1
        for held in self._blocks_at.values():
            if len(held) > 1:
                found = found * factorial(len(held))
        for cycle in self._cycles:
            found = found * ways_round(cycle)
        return found

    def rows_at(self, number):
        """The drawing with a number."""
        directions = [0 for _ in self._cycles]
        for at in range(len(directions) - 1, -1, -1):
            number, directions[at] = divmod(number, ways_round(self._cycles[at]))
        orders = dict(self._blocks_at)
        for node in list(orders)[::-1]:
            if len(orders[node]) > 1:
                number, rank = divmod(number, factorial(len(orders[node])))
                orders[node] = order_at(orders[node], rank)
        return drawn_rows(self._net, self._cycles, orders, directions)

    def number_by(self, rows):
        """The number of a drawing, by a dict of its rows."""
        number = 0
        for node, held in self._blocks_at.items():
            if len(held) > 1:
                lies_in = {name: at for at in held for name in self._cycles[at]}
                order = list({lies_in[name]: True for name in rows[node]})
                number = number * factorial(len(held)) + rank_of(order, held)
        for cycle in self._cycles:
            number = number * ways_round(cycle) + direction_in(cycle, rows)
        return number


def ways_round(cycle):
    """How many directions a block has, by its cycle."""
    return 2 if len(cycle) > 2 else 1


def direction_in(cycle, rows):
    """The direction of a block in a drawing, by its cycle and a dict of rows; 0 for two nodes."""
    ahead = [name for name in rows[cycle[0]] if name in cycle]
    return 0 if ahead[0] == cycle[1] else 1


def choices_of(net):
    """The choices of which the drawings of a net are made, None if it has none."""
    parts = blocks(net)
    cycles = block_cycles(net, parts)
    return None if None in cycles else Choices(net, parts, cycles)


def count_drawings(net):
    """The number of the drawings of a net, 0 if there are none."""
    made = choices_of(net)
    return 0 if made is None else made.how_many()


def drawing_at(net, number):
    """The drawing of a net with a number, as Rows."""
    made = choices_of(net)
    if made is None or not is_count(number) or number >= made.how_many():
        raise InvalidNumber(number)
    return made.rows_at(number)


def number_of(rows):
    """The number of a drawing."""
    need_rows(rows)
    if not rows.is_drawing:
        raise NoDrawing()
    return choices_of(rows.net).number_by(rows.table)


def drawings(net, first, many):
    """Yield the drawings with the numbers from a first one on, at most so many, as Rows."""
    need_net(net)
    need_count(first)
    need_count(many)
    made = choices_of(net)
    if made is not None:
        behind = first + many
        total = made.how_many()
        for number in range(first, behind if behind < total else total):
            yield made.rows_at(number)
