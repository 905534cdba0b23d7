"""The errors of the package."""


class SignError(ValueError):
    """A value is not valid."""


class InvalidName(SignError):
    """A value is no NAME."""

    def __init__(self, value):
        self.value = value


class InvalidLink(SignError):
    """A value is no tuple of two different nodes of the net."""

    def __init__(self, value):
        self.value = value


class InvalidNodes(SignError):
    """A list of nodes is wrong: at a position, or (None) as a whole."""

    def __init__(self, position):
        self.position = position


class InvalidLinks(SignError):
    """A list of links is wrong: at a position, or (None) as a whole."""

    def __init__(self, position):
        self.position = position


class InvalidNet(SignError):
    """A value is no Net."""

    def __init__(self, value):
        self.value = value


class InvalidClosing(SignError):
    """A value is no Closing."""

    def __init__(self, value):
        self.value = value


class InvalidRow(SignError):
    """The row of a node is wrong, or (None) the rows as a whole."""

    def __init__(self, node):
        self.node = node


class InvalidEntry(SignError):
    """A value is no part of an entry of signs."""

    def __init__(self, value):
        self.value = value


class InvalidSigns(SignError):
    """A value is no Signs."""

    def __init__(self, value):
        self.value = value


class InvalidRows(SignError):
    """A value is no Rows."""

    def __init__(self, value):
        self.value = value


class InvalidCount(SignError):
    """A value is no COUNT, or none that is let."""

    def __init__(self, value):
        self.value = value


class InvalidNumber(SignError):
    """A value is not the number of anything."""

    def __init__(self, value):
        self.value = value


class InvalidNeighbours(SignError):
    """A value is no list of different neighbours, or no pair to be joined."""

    def __init__(self, value):
        self.value = value


class InvalidFilling(SignError):
    """A value is no list of the links of a filling."""

    def __init__(self, value):
        self.value = value


class InvalidPart(SignError):
    """The part of a bundle with this name is wrong."""

    def __init__(self, name):
        self.name = name


class InvalidBundle(SignError):
    """A value is no Bundle, or none that is let."""

    def __init__(self, value):
        self.value = value


class InvalidText(SignError):
    """A text is wrong at a line, or (None) is no string."""

    def __init__(self, line):
        self.line = line


class InvalidClaim(SignError):
    """A value is no claim."""

    def __init__(self, value):
        self.value = value


class InvalidCommand(SignError):
    """A value is no command."""

    def __init__(self, value):
        self.value = value


class MissingError(LookupError):
    """Something that is named does not exist."""


class UnknownNode(MissingError):
    """A value is no node of the net."""

    def __init__(self, value):
        self.value = value


class UnknownLink(MissingError):
    """A value is no link of the net, or none that is closed."""

    def __init__(self, value):
        self.value = value


class UnknownName(MissingError):
    """A value is no name that stands for something."""

    def __init__(self, value):
        self.value = value


class StateError(RuntimeError):
    """What is asked is not possible with these objects."""


class LinkTaken(StateError):
    """There is such a link already."""

    def __init__(self, value):
        self.value = value


class NameTaken(StateError):
    """Two nodes would have this name."""

    def __init__(self, name):
        self.name = name


class NobodyLeft(StateError):
    """No node would be left."""


class OtherNet(StateError):
    """Two nets should be equal and are not."""

    def __init__(self, one, other):
        self.one = one
        self.other = other


class NoDrawing(StateError):
    """There is no drawing."""


class NotOneBlock(StateError):
    """The net is no single block of three or more nodes."""

    def __init__(self, count):
        self.count = count


class HasDrawing(StateError):
    """The net has a drawing."""


class NothingToUndo(StateError):
    """No command is left to be taken back."""


class CommandFailed(StateError):
    """The command at this position raised an error."""

    def __init__(self, position):
        self.position = position


class LimitError(ArithmeticError):
    """A limit is passed."""


class TooMany(LimitError):
    """There are more of something than the limit lets."""

    def __init__(self, what, limit):
        self.what = what
        self.limit = limit
