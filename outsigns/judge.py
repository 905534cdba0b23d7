"""Claims about nets, rows and signs, and the papers that show them to be true."""

from outsigns.breaking import find_break, is_break, is_break_of
from outsigns.checks import is_list
from outsigns.darts import undrawn_pieces
from outsigns.drawable import can_be_drawn
from outsigns.drawings import drawing, is_good_rows, rows_fault
from outsigns.errors import InvalidClaim
from outsigns.faults import first_fault
from outsigns.knots import find_knot, is_knot
from outsigns.nets import Net, is_node, need_net
from outsigns.rowlists import is_row
from outsigns.rows import Rows
from outsigns.search import has_few_links
from outsigns.signs import Signs


def is_claim(value):
    """Whether a value is a claim."""
    if not isinstance(value, tuple) or len(value) < 2 or not isinstance(value[0], str):
        return False
    if value[0] in ("joined", "apart"):
        return len(value) == 4 and are_strangers(value[1], value[2], value[3])
    if len(value) != 2:
        return False
    if value[0] in ("drawn", "knotted"):
        return isinstance(value[1], Net)
    if value[0] in ("good", "bad"):
        return isinstance(value[1], Rows)
    return value[0] == "broken" and can_be_judged(value[1])


def are_strangers(net, one, other):
    """Whether values are a net that may have a link more and two different nodes of it that are no neighbours."""
    if not isinstance(net, Net) or net.size == Net.MOST_LINKS:
        return False
    return is_node(net, one) and is_node(net, other) and one != other and (one, other) not in net


def can_be_judged(signs):
    """Whether a value is Signs of a net with few links or without a drawing."""
    return isinstance(signs, Signs) and (has_few_links(signs.net) or not can_be_drawn(signs.net.links()))


def net_of_claim(claim):
    """The net that a claim says to be drawn or knotted."""
    return claim[1] if len(claim) == 2 else claim[1] + (claim[2], claim[3])


def drawn_paper(net):
    """A dict from all nodes of a net to rows that are a drawing, None if there is none."""
    found = drawing(net)
    return None if found is None else found.as_dict()


def knot_paper(net):
    """A tuple (groups, inner, ties) that is a knot of a net, None if there is none."""
    found = find_knot(net)
    return None if found is None else (found.groups(), found.inner(), found.ties())


def undrawn_rings(rows):
    """The sorted list of the least nodes of the pieces whose rows are no drawing; all are rings if rows are good."""
    return [piece[0] for piece in undrawn_pieces(rows.table)]


def broken_paper(signs):
    """A break of signs that can be judged, None if they are good."""
    if not can_be_drawn(signs.net.links()):
        return find_break(signs)
    return break_of_fault(first_fault(signs))


def break_of_fault(fault):
    """A break with the first missed node of a fault, None for none."""
    return None if fault is None else (fault[0], fault[1], fault[2][0])


def certificate_of(claim):
    """A certificate of a claim, None if it is not true."""
    if not is_claim(claim):
        raise InvalidClaim(claim)
    if claim[0] in ("drawn", "joined"):
        return drawn_paper(net_of_claim(claim))
    if claim[0] in ("knotted", "apart"):
        return knot_paper(net_of_claim(claim))
    if claim[0] == "good":
        return undrawn_rings(claim[1]) if is_good_rows(claim[1]) else None
    if claim[0] == "bad":
        return break_of_fault(rows_fault(claim[1]))
    return broken_paper(claim[1])


def is_drawn_paper(net, value):
    """Whether a value is a dict from all nodes of a net to rows that are a drawing."""
    if not isinstance(value, dict) or len(value) != len(net):
        return False
    if not all([node in value and is_row(value[node], net.neighbours(node)) for node in net.nodes()]):
        return False
    return Rows(net, value).is_drawing


def is_good_paper(rows, value):
    """Whether a value is the list of the least nodes of the rings whose rows are no drawing, and rows are good."""
    return is_list(value) and is_good_rows(rows) and list(value) == undrawn_rings(rows)


def is_bad_paper(rows, value):
    """Whether a value is a break of the walk by rows."""
    if not is_break_of(rows.net, value):
        return False
    closing, start, node = value
    left = rows.opened(closing)
    # Who starts at a node goes round by its tour, and comes back.
    return node in left.net.piece_of(start) and node not in left.tour(start)


def is_certificate(claim, value):
    """Whether a value is a certificate of a claim."""
    if not is_claim(claim):
        raise InvalidClaim(claim)
    if claim[0] in ("drawn", "joined"):
        return is_drawn_paper(net_of_claim(claim), value)
    if claim[0] in ("knotted", "apart"):
        return is_knot(net_of_claim(claim), value)
    if claim[0] == "good":
        return is_good_paper(claim[1], value)
    if claim[0] == "bad":
        return is_bad_paper(claim[1], value)
    return is_break(claim[1], value)


class Answer:
    """An answer about a net, with a paper that shows it."""

    def __init__(self, about, paper):
        self.about = about
        self.paper = paper

    def told(self):
        """What is told of the net."""
        return f"{len(self.about)} nodes, {self.about.size} links"

    def is_yes(self):
        """Whether the net has a drawing, None if that is not said."""
        return None


class Drawn(Answer):
    """The answer that a net has a drawing."""

    def __init__(self, about, paper):
        super().__init__(about, paper)

    def told(self):
        return "drawn: " + super().told()

    def is_yes(self):
        return True


class Knotted(Answer):
    """The answer that a net has a knot."""

    def __init__(self, about, paper):
        super().__init__(about, paper)

    def told(self):
        return "knotted: " + super().told()

    def is_yes(self):
        return False


def answer(net):
    """Whether a net has a drawing, with a paper."""
    need_net(net)
    paper = drawn_paper(net)
    if paper is None:
        return Knotted(net, knot_paper(net))
    return Drawn(net, paper)
