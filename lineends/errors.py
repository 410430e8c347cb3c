"""The errors of Lineends.

Their messages are fixed texts: Python refuses to print numbers of many thousand digits, and a value may be one.
"""


class LineError(ValueError):
    """The base of all errors of Lineends."""


class InvalidChain(LineError):
    """A letter of a chain is no step; the value is its index."""

    def __init__(self, value):
        super().__init__("a letter of the chain is no step")
        self.value = value


class InvalidRun(LineError):
    """A run is not valid; the value is the index of the fault, or None for its rest."""

    def __init__(self, value):
        super().__init__("the run is not valid")
        self.value = value


class InvalidForm(LineError):
    """A tuple is no form; the value is None."""

    def __init__(self, value):
        super().__init__("the tuple is no form")
        self.value = value


class InvalidNumber(LineError):
    """A number is out of range; the value is the number."""

    def __init__(self, value):
        super().__init__("the number is out of range")
        self.value = value


class InvalidPlace(LineError):
    """A run has no such place; the value is the place."""

    def __init__(self, value):
        super().__init__("the run has no such place")
        self.value = value


class UnknownName(LineError):
    """A depot has no copy of this name; the value is the name."""

    def __init__(self, value):
        super().__init__("there is no copy with this name")
        self.value = value


class NothingToUndo(LineError):
    """A file has no step that could be taken back; the value is 0."""

    def __init__(self, value):
        super().__init__("there is no step to undo")
        self.value = value


class Unreadable(LineError):
    """A text is the text of no run or form; the value is the text."""

    def __init__(self, value):
        super().__init__("the text cannot be read")
        self.value = value
