"""Sorted lists of names and of links, and the parts of a list in order."""

from itertools import combinations


def sorted_names(names):
    """The sorted list of some names."""
    return sorted(names, key=str)


def sorted_links(links):
    """The sorted list of some different links, each of which has the lesser name first."""
    return sorted_lists(links)


def parts_in_order(items):
    """All tuples of some of these different items: shorter ones first, then in order of the positions."""
    return [part for many in range(len(items) + 1) for part in combinations(items, many)]


def sorted_lists(lists):
    """The sorted list of some different lists, or tuples, of names."""
    # A space sorts ahead of every letter, so these texts sort as the lists do.
    held = {" ".join(names): names for names in lists}
    return [held[text] for text in sorted_names(list(held))]


def sorted_parts(parts):
    """The list of some different tuples of names, shorter ones first, then in order of their names."""
    # A digit, since there are fewer than ten names.
    held = {f"{len(part)} {' '.join(part)}": part for part in parts}
    return [held[text] for text in sorted_names(list(held))]
