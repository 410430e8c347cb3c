"""Runs and forms that are read from texts."""

from lineends.checks import is_form, is_run
from lineends.errors import Unreadable
from lineends.texts import show_run

MOST_DIGITS = 60


def read_run(text):
    """Return the run of a text."""
    words = text.split(" ")
    rest = 0
    if words[-1].startswith("+"):
        rest = number_in(words.pop()[1:], text)
    run = ([group_in(word, text) for word in words], rest)
    # A rest of 0 is readable only where it is shown.
    if not is_run(run) or show_run(run) != text:
        raise Unreadable(text)
    return run


def read_form(text):
    """Return the form of a text."""
    words = text.split(" ")
    wanted = (words[0],) + tuple([number_in(word, text) for word in words[1:]])
    if not is_form(wanted):
        raise Unreadable(text)
    return wanted


def group_in(word, text):
    """Return the tuple that a word of a text shows; raise Unreadable if it shows none."""
    many, _, j = word.partition("x")
    return (number_in(many, text), number_in(j, text))


def number_in(word, text):
    """Return the number that a word of a text shows; raise Unreadable if it shows none."""
    if not word.isascii() or not word.isdigit() or len(word) > MOST_DIGITS:
        raise Unreadable(text)
    if word[0] == "0" and word != "0":
        raise Unreadable(text)
    return int(word)
