"""The errors of the package.

None is a base of another one, so that catching one never catches another.
"""


class InvalidHouse(ValueError):
    """A value is no house; part tells which part is wrong."""

    def __init__(self, part):
        self.part = part


class InvalidRules(ValueError):
    """A value is no rules; index is that of the first wrong one, or None."""

    def __init__(self, index):
        self.index = index


class InvalidTree(ValueError):
    """A value is no tree; index is that of the first wrong pair, or None."""

    def __init__(self, index):
        self.index = index


class InvalidTask(ValueError):
    """A value is no task; part tells which part is wrong."""

    def __init__(self, part):
        self.part = part


class InvalidClaim(ValueError):
    """A value is no claim, or one that is not valid for the house."""


class InvalidContent(ValueError):
    """A value is no content, or no tuple of contents."""

    def __init__(self, value):
        self.value = value


class InvalidDeeds(ValueError):
    """A value is no tuple of deeds."""


class ParseError(ValueError):
    """A text cannot be read; line is the index of the line."""

    def __init__(self, line):
        self.line = line


class UnknownItem(LookupError):
    """There is no item, or no kind, with this index."""

    def __init__(self, index):
        self.index = index


class UnknownThing(LookupError):
    """There is no thing with this number."""

    def __init__(self, number):
        self.number = number


class UnknownGuard(LookupError):
    """There is no guard with this number."""

    def __init__(self, number):
        self.number = number


class UnknownCheckpoint(LookupError):
    """There is no checkpoint with this number."""

    def __init__(self, number):
        self.number = number


class UnknownRecord(LookupError):
    """There is no record with this number."""

    def __init__(self, number):
        self.number = number


class NotAFolder(RuntimeError):
    """The thing is a leaf where a folder is asked for."""

    def __init__(self, number):
        self.number = number


class Holds(RuntimeError):
    """Something lies in the folder."""

    def __init__(self, number):
        self.number = number


class Within(RuntimeError):
    """The target is the thing, or lies below it."""

    def __init__(self, number):
        self.number = number


class NotLet(RuntimeError):
    """No rule lets the thing be moved so."""

    def __init__(self, number):
        self.number = number


class Reachable(RuntimeError):
    """The thing can come to this content."""

    def __init__(self, value):
        self.value = value


class Refused(RuntimeError):
    """The deed at this index raised an error."""

    def __init__(self, index):
        self.index = index


class LimitExceeded(OverflowError):
    """There would be more than the limit."""

    def __init__(self, limit):
        self.limit = limit
