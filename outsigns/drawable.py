"""Whether links can be drawn with all nodes at the outside, and which of them must stay for that not to be so."""


def can_be_drawn(links):
    """Whether the net of some different links has a drawing."""
    near = {}
    for one, other in links:
        near.setdefault(one, {})[other] = 0
        near.setdefault(other, {})[one] = 0
    # A net with a drawing has at most 2p - 3 links, p being the number of its nodes.
    return len(links) == 0 or len(links) <= 2 * len(near) - 3 and can_be_taken_off(near)


def can_be_taken_off(near):
    """Whether one can take off nodes with at most two neighbours until none is left, by a table that is changed.

    The two neighbours are joined in the place of the node. The table has for each node and each of its neighbours the
    number of the sides of their link at which something was taken off: a link with two such sides is no part of a ring
    any more.
    """
    waiting = [node for node in near if len(near[node]) < 3]
    while len(waiting) > 0:
        node = waiting.pop()
        beside = near.pop(node, None)
        if beside is None:
            # It waited twice.
            continue
        for name in beside:
            del near[name][node]
        if len(beside) == 2:
            one, other = list(beside)
            sides = near[one].get(other)
            closed = beside[one] == 2 or beside[other] == 2
            if sides is not None and (closed or sides == 2):
                return False
            near[one][other] = near[other][one] = 2 if closed else 1 if sides is None else sides + 1
        waiting.extend([name for name in beside if len(near[name]) < 3])
    return len(near) == 0


def last_that_holds(kept, left, low, high, holds):
    """The greatest number of links of a list, from its beginning, that can be taken away: low can be, high can not."""
    while high - low > 1:
        middle = (low + high) // 2
        if holds([*kept, *left[middle:]]):
            low = middle
        else:
            high = middle
    return low


def links_kept(links, holds):
    """What stays of a list of links from which one after another is taken away as long as something holds of the rest.

    `holds` tells whether it does, of a list of links; it holds of all these links, not of none, and of each list of
    links that has another one as a part of which it holds.
    """
    # The first one that stays: mostly few links behind it are enough, and these are asked about sooner.
    many = 1
    while many < len(links) and not holds(links[-many:]):
        many = 2 * many
    start = len(links) - many if many < len(links) else 0
    start = last_that_holds([], links, start, len(links) - many // 2, holds)
    kept = [links[start]]
    left = links[start + 1:]
    while len(left) > 0 and not holds(kept):
        # The next ones: so many may be taken away together, first by longer and longer steps.
        low = 0
        step = 1
        while low + step < len(left) and holds([*kept, *left[low + step:]]):
            low = low + step
            step = 2 * step
        low = last_that_holds(kept, left, low, low + step if low + step < len(left) else len(left), holds)
        kept.append(left[low])
        left = left[low + 1:]
    return kept
