"""Walks by signs at all closings of a net with few links, all of them at once."""

from outsigns.closings import made_closing
from outsigns.darts import piece_from
from outsigns.errors import TooMany
from outsigns.sorting import parts_in_order

MOST_SEARCHED = 10


def has_few_links(net):
    """Whether a net has so few links that one can go through all closings."""
    return net.size <= MOST_SEARCHED


def need_few_links(net):
    """Raise TooMany if a net has too many links to go through all closings."""
    if not has_few_links(net):
        raise TooMany("links", MOST_SEARCHED)


def any_of(sets):
    """The closings that are in any set of a list."""
    found = 0
    for held in sets:
        found = found | held
    return found


class Search:
    """The walks by signs at all closings of links of their net, at most ten.

    Each closing has a number, the sum of the bits of its links; a set of closings is an integer, too, the sum of
    1 << number of its closings. So what is worked out once holds for all closings. Arrivals have numbers, too.
    """

    def __init__(self, signs):
        net = signs.net
        self._nodes = net.nodes()
        self._beside = net.near
        self._links = net.links()
        self._many = 1 << len(self._links)
        self._every = (1 << self._many) - 1
        self._free = {}
        self._shut = {}
        for at, (one, other) in enumerate(self._links):
            # Of 1 << (at + 1) numbers that follow each other the first half is without the bit 1 << at.
            free = self._every // ((1 << (1 << at)) + 1)
            self._free[(one, other)] = self._free[(other, one)] = free
            self._shut[(one, other)] = self._shut[(other, one)] = self._every ^ free
        darts = [(node, name) for node in self._beside for name in self._beside[node]]
        self._places = {dart: at for at, dart in enumerate(darts)}
        self._nodes_there = [node for node, _ in darts]
        # Where one goes on from each arrival, and from each start: lists of tuples (arrival there, closings).
        self._ways = [[] for _ in darts]
        self._firsts = {node: [] for node in self._beside}
        for node in self._beside:
            row = signs.row_at(node)
            if row is None:
                self.note_goings(node, signs)
            else:
                self.note_row(node, row)

    def note_row(self, node, row):
        """Note where one goes on at a node by its row."""
        for at, arriving in [(0, None), *[(at + 1, name) for at, name in enumerate(row)]]:
            found = self._firsts[node] if arriving is None else self._ways[self._places[(node, arriving)]]
            left = self._every
            for name in [*row[at:], *row[:at]]:
                found.append((self._places[(name, node)], left & self._free[(node, name)]))
                left = left & self._shut[(node, name)]

    def note_goings(self, node, signs):
        """Note where one goes on at a node by all its entries."""
        near = self._beside[node]
        held = {arriving: {} for arriving in [None, *near]}
        for closed, here in self.sets_at(node).items():
            for arriving, going in signs.goings(node, closed).items():
                if going is not None:
                    held[arriving][going] = held[arriving].get(going, 0) | here
        for arriving in held:
            found = self._firsts[node] if arriving is None else self._ways[self._places[(node, arriving)]]
            found.extend([(self._places[(name, node)], here) for name, here in held[arriving].items()])

    def joined_to(self, goal):
        """A dict from the nodes of the piece of a goal to the closings at which they are joined to it."""
        found = {node: 0 for node in piece_from(self._beside, goal)}
        found[goal] = self._every
        before = None
        while found != before:
            before = dict(found)
            for node in before:
                for name in self._beside[node]:
                    found[name] = found[name] | found[node] & self._free[(node, name)]
        return found

    def arrivals_around(self, piece):
        """The list of the arrivals at all nodes of a piece but its first one, from which the others are seen.

        Those from nodes farther off come first, nearer ones ahead of farther ones, then the others the opposite way: so
        most of them come behind those to which one goes on.
        """
        rank = {node: at for at, node in enumerate(piece)}
        darts = [(node, name) for node in piece[1:] for name in self._beside[node]]
        home = [self._places[(node, name)] for node, name in darts if rank[name] > rank[node]]
        away = [self._places[(node, name)] for node, name in darts if rank[name] < rank[node]]
        return [*home, *away[::-1]]

    def meeting(self, goal):
        """A dict from the nodes of the piece of a goal to the closings at which the walks from them meet it."""
        piece = piece_from(self._beside, goal)
        found = [0 for _ in self._ways]
        for name in self._beside[goal]:
            found[self._places[(goal, name)]] = self._every
        around = [(place, self._ways[place]) for place in self.arrivals_around(piece)]
        before = None
        # What holds of the next arrival holds of this one: again and again, until nothing is added.
        while found != before:
            before = list(found)
            for place, ways in around:
                held = 0
                for to, way in ways:
                    held = held | found[to] & way
                found[place] = held
        met = {node: any_of([found[to] & way for to, way in self._firsts[node]]) for node in piece}
        return {**met, goal: self._every}

    def are_joined_ends_alike(self, met):
        """Whether, at all closings, the walks from both ends of each open link meet a goal or neither does."""
        return not any([(met[one] ^ met[other]) & self._free[(one, other)] for one, other in self._links if one in met])

    def does_serve(self, goal):
        """Whether the walks from all nodes that are joined to a goal meet it, at all closings."""
        return self.are_joined_ends_alike(self.meeting(goal))

    def lost(self, goal):
        """A dict from the nodes whose walks somewhere do not meet a goal, though joined to it, to these closings."""
        met = self.meeting(goal)
        # Then they meet it from wherever they are joined to it; this is seen without asking what is joined.
        if self.are_joined_ends_alike(met):
            return {}
        joined = self.joined_to(goal)
        return {node: joined[node] ^ met[node] for node in self._nodes if node in met and joined[node] != met[node]}

    def missed(self):
        """A dict from the starts that somewhere miss a node to the lists of the tuples (node missed, closings)."""
        found = {node: [] for node in self._nodes}
        for goal in self._nodes:
            for start, held in self.lost(goal).items():
                found[start].append((goal, held))
        return {node: found[node] for node in found if len(found[node]) > 0}

    def arrivals(self):
        """A list of the closings at which a walk comes to each arrival."""
        found = [0 for _ in self._ways]
        for node in self._firsts:
            for to, way in self._firsts[node]:
                found[to] = found[to] | way
        before = None
        while found != before:
            before = list(found)
            for place, ways in enumerate(self._ways):
                for to, way in ways:
                    found[to] = found[to] | found[place] & way
        return found

    def sets_at(self, node):
        """A dict from all sets of closed neighbours of a node to the closings at which just these are closed there."""
        found = {(): self._every}
        for name in self._beside[node]:
            free, shut = self._free[(node, name)], self._shut[(node, name)]
            less = {closed: held & free for closed, held in found.items()}
            found = {**less, **{(*closed, name): held & shut for closed, held in found.items()}}
        return found

    def unused_at(self, node, arrivals):
        """The tuples (closed, arriving) of the entries of a node that no walk asks, by the list of the arrivals."""
        near = self._beside[node]
        came = {name: arrivals[self._places[(node, name)]] for name in near}
        sets = self.sets_at(node)
        return [(closed, name) for closed in parts_in_order(near) for name in near
                if name not in closed and came[name] & sets[closed] == 0]

    def first_of(self, held):
        """The number of the first closing, in order, of a set that has some."""
        sizes = [held]
        for link in self._links:
            free, shut = self._free[link], self._shut[link]
            less = [*[here & free for here in sizes], 0]
            more = [0, *[here & shut for here in sizes]]
            sizes = [one | other for one, other in zip(less, more)]
        left = [here for here in sizes if here != 0][0]
        for link in self._links:
            if left & self._shut[link] != 0:
                left = left & self._shut[link]
        return left.bit_length() - 1

    def closing_at(self, number):
        """The closing with a number."""
        return made_closing([link for at, link in enumerate(self._links) if number >> at & 1])

    def marks(self, held):
        """A text that has, at the number of each closing, "1" if it is in a set."""
        return f"{held:b}"[::-1].ljust(self._many, "0")

    def later_in_order(self, held):
        """The lists of the numbers and of the links, tuples, of the closings of some links in a set, in order."""
        marks = self.marks(held)
        bits = parts_in_order([1 << at for at in range(len(self._links))])
        numbers = [sum(part) for part in bits]
        numbered = [(number, part) for number, part in zip(numbers, parts_in_order(self._links))
                    if marks[number] == "1" and number > 0]
        return [number for number, _ in numbered], [part for _, part in numbered]

    def longest_from(self, start):
        """The greatest steps to all from a start, at all closings, by signs that are good; and the closings."""
        unmet = self.joined_to(start)
        unmet[start] = 0
        best = (0, self._every)
        steps = 0
        now = dict(self._firsts[start])
        rest = any_of(list(unmet.values()))
        while rest != 0:
            steps = steps + 1
            fresh = 0
            further = {}
            for place, held in now.items():
                node = self._nodes_there[place]
                fresh = fresh | held & unmet[node]
                unmet[node] = unmet[node] & ~held
                for to, way in self._ways[place]:
                    further[to] = further.get(to, 0) | held & way & rest
            if fresh != 0:
                best = (steps, fresh)
            now = further
            rest = any_of(list(unmet.values()))
        return best

    def longest(self):
        """The tuple (steps, number of the closing, start) of the greatest steps to all, by signs that are good."""
        found = {start: self.longest_from(start) for start in self._nodes}
        most = max([int(steps) for steps, _ in found.values()])
        first = {start: held for start, (steps, held) in found.items() if steps == most}
        number = self.first_of(any_of(list(first.values())))
        return (most, self.closing_at(number), [start for start in first if first[start] >> number & 1][0])
