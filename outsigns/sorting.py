"""Sorted lists of names and of links, and the parts of a list in order."""


def sorted_names(names):
    """The sorted list of some names."""
    return sorted([str(name) for name in names])


def sorted_links(links):
    """The sorted list of some links, each of which has the lesser name first."""
    # A space sorts ahead of every letter, so these texts sort as the tuples do.
    texts = sorted([f"{one} {other}" for one, other in links])
    return [tuple(text.split(" ")) for text in texts]


def longer_parts(parts, many):
    """All ascending lists of positions below many that continue one of these lists by one position."""
    found = []
    for part in parts:
        first = 0 if len(part) == 0 else part[-1] + 1
        for at in range(first, many):
            found.append([*part, at])
    return found


def parts_in_order(items):
    """All lists of some of these different items: shorter ones first, then in order of the positions."""
    found = []
    parts = [[]]
    while len(parts) > 0:
        for part in parts:
            found.append([items[at] for at in part])
        parts = longer_parts(parts, len(items))
    return found
