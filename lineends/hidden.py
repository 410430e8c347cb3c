"""Hidden chains, and how to find out by one question what they do."""

from lineends.checks import check_chain
from lineends.converting import convert, runs_of, size


class HiddenChain:
    """A chain that only tells what becomes of a text."""

    def __init__(self, chain):
        check_chain(chain)
        self._chain = chain
        self._questions = 0

    def ask(self, text):
        """Return the text after the chain."""
        answer = convert(text, self._chain)
        self._questions += 1
        return answer

    @property
    def questions(self):
        """How many times ask has returned."""
        return self._questions


def find(hidden, longest):
    """Return the form of a hidden chain of at most so many steps, by one question."""
    one, bare, full = runs_of(hidden.ask(question(longest)))
    # A return alone is one unit of every form, a bare newline is a + 1 of them, and the full group has lost b returns.
    unit = size(one)
    a = size(bare) // unit - 1
    b = longest + a + 1 - size(full) // unit
    return form_with(one, bare, b, a)


def question(longest):
    """Return a text whose runs are a return, a newline, and a group with as many returns as there may be steps."""
    return "^ \n " + "^" * longest + "\n"


def form_with(one, bare, b, a):
    """Return the form with this b and a that makes these runs of a return alone and of a bare newline."""
    groups, rest = one
    if groups:
        k, c = groups[0]
        return ("lf", b, a, k, c)
    if bare[0]:
        return ("keep", b, a)
    return ("cr", b, a, rest)
