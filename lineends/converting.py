"""Conversions of texts and runs by chains of steps."""

from lineends.checks import check_chain, check_run
from lineends.composing import NOTHING, form_of_chain, merged_groups, run_after, units

REPLACEMENTS = {"U": ("\n", "^\n"), "D": ("^\n", "\n"), "M": ("^", "\n"), "N": ("\n", "^")}
SIGNS = "^\n"


def convert(text, chain):
    """Return the text after the steps of a chain."""
    check_chain(chain)
    for letter in chain:
        text = text_after_step(text, letter)
    return text


def convert_run(run, chain):
    """Return the run after the steps of a chain."""
    check_run(run)
    check_chain(chain)
    # By its form, a chain takes no time for each of its steps and groups together.
    return run_after(run, form_of_chain(chain))


def stages(text, chain):
    """Yield the text, then the text after each step."""
    check_chain(chain)
    yield text
    for letter in chain:
        text = text_after_step(text, letter)
        yield text


def size(run):
    """Return the number of characters of a run."""
    check_run(run)
    # The units of the form that changes nothing are the characters.
    return units(run, NOTHING)


def runs_of(text):
    """Return the runs of a text, from left to right."""
    spaced = "".join([sign if sign in SIGNS else " " for sign in text])
    return [run_of_piece(piece) for piece in spaced.split(" ") if piece]


def text_after_step(text, letter):
    """Return the text after one step."""
    old, new = REPLACEMENTS[letter]
    return text.replace(old, new)


def run_of_piece(piece):
    """Return the run that is written as a text of returns and newlines only."""
    parts = piece.split("\n")
    return (merged_groups([(1, len(returns)) for returns in parts[:-1]]), len(parts[-1]))
