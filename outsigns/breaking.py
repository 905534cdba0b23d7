"""Breaks: closings at which signs of a net with a knot miss a node."""

from outsigns.bundles import need_bundle
from outsigns.carrying import brought_back, carried, need_net_of
from outsigns.closings import Closing
from outsigns.errors import InvalidBundle
from outsigns.faults import first_fault
from outsigns.knots import find_knot
from outsigns.nets import has_links, is_node
from outsigns.signs import need_signs
from outsigns.walking import missed


def first_break(signs, bundle):
    """The first break of signs at a knot, a tuple (closing, start, node)."""
    need_signs(signs)
    need_bundle(bundle)
    if bundle.kind is None:
        raise InvalidBundle(bundle)
    need_net_of(signs.net, bundle)
    # No signs of a small net with a knot are good.
    closing, start, nodes = first_fault(carried(signs, bundle))
    return (brought_back(bundle, closing), start, nodes[0])


def find_break(signs):
    """A break of signs, None if their net has a drawing."""
    need_signs(signs)
    knot = find_knot(signs.net)
    return None if knot is None else first_break(signs, knot)


def is_break_of(net, value):
    """Whether a value is a tuple of a closing of links of a net and two nodes of it."""
    if not isinstance(value, tuple) or len(value) != 3:
        return False
    closing, start, node = value
    if not isinstance(closing, Closing) or not has_links(net, closing.links()):
        return False
    return is_node(net, start) and is_node(net, node)


def is_break(signs, value):
    """Whether a value is a break of signs."""
    need_signs(signs)
    return is_break_of(signs.net, value) and value[2] in missed(signs, value[0], value[1])
