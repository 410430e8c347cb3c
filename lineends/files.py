"""Texts whose line endings are converted step by step, and back."""

from lineends.checks import check_chain
from lineends.composing import form_of_chain
from lineends.converting import text_after_step
from lineends.errors import NothingToUndo


class LineFile:
    """A text whose line endings are converted."""

    def __init__(self, text):
        self._text = text
        self._chain = ""
        # The text before each step: most steps cannot be taken back from the text alone.
        self._earlier = []

    def __eq__(self, other):
        return isinstance(other, LineFile) and self._text == other._text

    @property
    def text(self):
        """The present text."""
        return self._text

    @property
    def chain(self):
        """The steps so far as one chain."""
        return self._chain

    @property
    def form(self):
        """The form of the steps so far."""
        return form_of_chain(self._chain)

    @property
    def breaks(self):
        """The number of newlines in the present text."""
        return self._text.count("\n")

    def convert(self, *chains):
        """Apply any number of chains."""
        chain = "".join(chains)
        check_chain(chain)
        for letter in chain:
            self._earlier.append(self._text)
            self._text = text_after_step(self._text, letter)
        self._chain = self._chain + chain

    def undo(self):
        """Take back the last step."""
        if not self._earlier:
            raise NothingToUndo(0)
        self._text = self._earlier.pop()
        self._chain = self._chain[:-1]

    def lines(self):
        """Yield the pieces between the newlines of the present text."""
        yield from self._text.split("\n")

    @classmethod
    def of_lines(cls, lines, ending):
        """Return an object of this class with the lines, each followed by an ending."""
        return cls("".join([line + ending for line in lines]))
