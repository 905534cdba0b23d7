"""The least break of rows, found by closing links and opening them again."""


class OpenRows:
    """Rows in which links are closed, and opened again in the opposite sequence; nodes and links stand for positions.

    The link at a position has two darts, twice the position and one more: each is the other one ^ 1. The row of a node
    is kept by the darts that arrive there: which one stands behind and which one ahead of each, and which one is last.
    """

    def __init__(self, rows, links):
        darts = {}
        for at, (one, other) in enumerate(links):
            darts[(one, other)] = 2 * at
            darts[(other, one)] = 2 * at + 1
        self._behind = [0 for _ in darts]
        self._ahead = [0 for _ in darts]
        self._there = [0 for _ in darts]
        self._last = []
        self._many = []
        for at, (node, row) in enumerate(rows.items()):
            before = darts[(row[-1], node)] if len(row) > 0 else None
            self._last.append(before)
            self._many.append(len(row))
            for name in row:
                dart = darts[(name, node)]
                self._behind[before] = dart
                self._ahead[dart] = before
                self._there[dart] = at
                before = dart
        self._lasts = []
        # The number of the last asking at which one came by a dart, or to a node: so nothing is to be taken away.
        self._asking = 0
        self._darts_at = [0 for _ in darts]
        self._nodes_at = [0 for _ in self._last]

    def close(self, low, high):
        """Close the links at the positions from low up to high."""
        for dart in range(2 * low, 2 * high):
            node = self._there[dart]
            before = self._ahead[dart]
            self._behind[before] = self._behind[dart]
            self._ahead[self._behind[dart]] = before
            self._many[node] = self._many[node] - 1
            self._lasts.append(self._last[node])
            if self._last[node] == dart:
                self._last[node] = before

    def open_again(self, low, high):
        """Open the links at the positions from low up to high, which were closed as the last ones."""
        for dart in range(2 * high - 1, 2 * low - 1, -1):
            node = self._there[dart]
            self._behind[self._ahead[dart]] = dart
            self._ahead[self._behind[dart]] = dart
            self._many[node] = self._many[node] + 1
            self._last[node] = self._lasts.pop()

    def is_bad(self):
        """Whether any piece is neither a ring nor drawn."""
        self._asking = self._asking + 1
        for node, many in enumerate(self._many):
            if many > 0 and self._nodes_at[node] != self._asking and self.is_piece_bad(node):
                return True
        return False

    def is_bad_at(self, position):
        """Whether the piece of the link at a position is neither a ring nor drawn."""
        self._asking = self._asking + 1
        return self.is_piece_bad(self._there[2 * position])

    def is_piece_bad(self, start):
        """Whether the piece of a node with links is neither a ring nor drawn."""
        behind, there, last, asking = self._behind, self._there, self._last, self._asking
        nodes = []
        corners = 0
        dart = last[start]
        while self._darts_at[dart] != asking:
            self._darts_at[dart] = asking
            node = there[dart]
            if last[node] == dart:
                corners = corners + 1
            if self._nodes_at[node] != asking:
                self._nodes_at[node] = asking
                nodes.append(node)
            dart = behind[dart] ^ 1
        if corners < len(nodes):
            return any([self._many[node] != 2 for node in nodes])
        return self.is_wrong_inside(nodes)

    def is_wrong_inside(self, nodes):
        """Whether a node beside these ones is none of them, or they have not as many rounds as a plane drawing has.

        One came by the darts of one round, which has the outer corners of all these nodes.
        """
        behind, there, asking = self._behind, self._there, self._asking
        missing = sum([self._many[node] for node in nodes]) // 2 - len(nodes) + 1
        for node in nodes:
            first = self._last[node]
            for _ in range(self._many[node]):
                if self._nodes_at[there[first ^ 1]] != asking:
                    return True
                if self._darts_at[first] != asking:
                    missing = missing - 1
                    dart = first
                    while self._darts_at[dart] != asking:
                        self._darts_at[dart] = asking
                        dart = behind[dart] ^ 1
                first = behind[first]
        return missing > 0


def links_at_break(rows, links):
    """The links that are open at the least break of rows, by a dict of them and the sorted links; None if good."""
    open_rows = OpenRows(rows, links)
    if not open_rows.is_bad():
        return None
    kept = []
    at = 0
    step = 1
    # Longer and longer runs of links are closed together as long as the rows are bad without them.
    while at < len(links):
        behind = at + step if at + step < len(links) else len(links)
        open_rows.close(at, behind)
        # Without the first link that stays all is good: what is wrong is in its piece.
        if open_rows.is_bad() if len(kept) == 0 else open_rows.is_bad_at(kept[0]):
            at = behind
            step = 2 * step
            continue
        open_rows.open_again(at, behind)
        step = (behind - at + 1) // 2
        if behind == at + 1:
            kept.append(at)
            at = behind
    return [links[position] for position in kept]
