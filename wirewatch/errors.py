"""The errors of the program. Each one is raised with its attributes by position."""


class WireError(ValueError):
    """The base class of all errors."""


class BadIndex(WireError):
    """An index or a count is out of range."""

    def __init__(self, index):
        self.index = index


class BadWord(WireError):
    """No word has this width and this value."""

    def __init__(self, size, number):
        self.size = size
        self.number = number


class BadWidth(WireError):
    """Two words have different widths."""

    def __init__(self, left, right):
        self.left = left
        self.right = right


class BadTable(WireError):
    """A word of this width is no table."""

    def __init__(self, size):
        self.size = size


class BadRow(WireError):
    """A row has a wrong length or a wrong item."""

    def __init__(self, row):
        self.row = row


class BadText(WireError):
    """A text cannot be read."""

    def __init__(self, line, column, code):
        self.line = line
        self.column = column
        self.code = code


class BadName(WireError):
    """A text is no name."""

    def __init__(self, name):
        self.name = name


class BadNet(WireError):
    """A net has a fault."""

    def __init__(self, code, wire):
        self.code = code
        self.wire = wire


class BadDesign(WireError):
    """A design has a fault."""

    def __init__(self, code, module, item):
        self.code = code
        self.module = module
        self.item = item


class BadDiagram(WireError):
    """A value is no diagram."""

    def __init__(self, diagram):
        self.diagram = diagram


class BadStep(WireError):
    """A step does not apply."""

    def __init__(self, rule, wire):
        self.rule = rule
        self.wire = wire


class BadPattern(WireError):
    """A pattern has a fault."""

    def __init__(self, code, node):
        self.code = code
        self.node = node


class BadMachine(WireError):
    """A machine has a fault."""

    def __init__(self, code):
        self.code = code


class BadMove(WireError):
    """A wire cannot be changed in this way."""

    def __init__(self, wire):
        self.wire = wire


class UnknownWire(WireError):
    """A text is not declared, not among the wires, or no gate where a gate is due."""

    def __init__(self, wire):
        self.wire = wire


class UnknownName(WireError):
    """No module, or no watch, has this name."""

    def __init__(self, name):
        self.name = name


class NameTaken(WireError):
    """A name or a wire is in use already."""

    def __init__(self, name):
        self.name = name


class Mismatch(WireError):
    """Two values do not fit together."""

    def __init__(self, what):
        self.what = what


class TooLarge(WireError):
    """Something is larger than its limit."""

    def __init__(self, what, most):
        self.what = what
        self.most = most


class NotFailing(WireError):
    """A stimulus does not fail."""


class NothingLeft(WireError):
    """There is nothing to undo or to redo."""

    def __init__(self, what):
        self.what = what
