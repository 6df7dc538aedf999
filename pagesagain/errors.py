"""The errors of the package; each one keeps what it was made with."""


class PageError(ValueError):
    """The base of the errors that tell of a wrong value."""


class BadMachine(PageError):
    """No tables of a machine: the index of the first wrong table, or -1."""

    def __init__(self, at):
        self.at = at


class BadRow(PageError):
    """No row: the index of the first item that is no deed, or -1."""

    def __init__(self, at):
        self.at = at


class BadPage(PageError):
    """No page: 0 for its deeds, 1 for its number, or -1."""

    def __init__(self, at):
        self.at = at


class BadText(PageError):
    """A text that cannot be read, and where."""

    def __init__(self, at):
        self.at = at


class Refused(PageError):
    """A value that is not taken: the value itself."""

    def __init__(self, at):
        self.at = at


class TooGreat(PageError):
    """A search that met more things than it may."""

    def __init__(self, most):
        self.most = most


class NoState(KeyError):
    """A value that is no state of the machine."""

    def __init__(self, state):
        self.state = state


class NoDeed(KeyError):
    """A value that is no deed of the machine."""

    def __init__(self, deed):
        self.deed = deed
