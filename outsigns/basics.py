"""What integers, counts, names and links are."""

from outsigns.errors import InvalidName

LONGEST_NAME = 8


def is_integer(value):
    """Whether a value is an INTEGER; a bool is none."""
    return isinstance(value, int) and not isinstance(value, bool)


def is_count(value):
    """Whether a value is a COUNT."""
    return is_integer(value) and value >= 0


def is_name(value):
    """Whether a value is a NAME."""
    if not isinstance(value, str) or len(value) > LONGEST_NAME:
        return False
    return value.isascii() and value.isalpha() and value.islower()


def are_names(strings):
    """Whether some strings are NAMES, all of them."""
    # All together is faster than one by one.
    text = "".join(strings)
    if not text.isascii() or not text.isalpha() or not text.islower():
        return len(strings) == 0
    return all([0 < len(string) <= LONGEST_NAME for string in strings])


def is_link(value):
    """Whether a value is a tuple of two different NAMES."""
    if not isinstance(value, tuple) or len(value) != 2:
        return False
    return is_name(value[0]) and is_name(value[1]) and value[0] != value[1]


def ordered_pair(one, other):
    """The tuple of two names, the lesser one first."""
    return (one, other) if one < other else (other, one)


def link_of(one, other):
    """The link between two nodes, as it is returned: the lesser name first."""
    if not is_name(one):
        raise InvalidName(one)
    if not is_name(other) or one == other:
        raise InvalidName(other)
    return ordered_pair(one, other)
