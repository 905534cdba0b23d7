"""Sorted lists of names and of links, and the parts of a list in order."""

from itertools import combinations


def sorted_names(names):
    """The sorted list of some names."""
    return sorted(names, key=str)


def sorted_links(links):
    """The sorted list of some links, each of which has the lesser name first."""
    # A quote sorts ahead of every letter, so the texts of tuples of two names sort as the tuples do.
    return sorted(links, key=str)


def parts_of_size(items, many):
    """All tuples of so many of these different items, in order of their positions."""
    return list(combinations(items, many))


def parts_in_order(items):
    """All tuples of some of these different items: shorter ones first, then in order of the positions."""
    return [part for many in range(len(items) + 1) for part in combinations(items, many)]


def sorted_lists(lists):
    """The sorted list of some different lists of names."""
    # A space sorts ahead of every letter, so these texts sort as the lists do.
    held = {" ".join(names): names for names in lists}
    return [held[text] for text in sorted_names(list(held))]
