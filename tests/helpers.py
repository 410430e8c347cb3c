"""What several tests need: slow and plain ways to the same results, small runs and chains, and a check of errors."""

from itertools import groupby, product

STEPS = "UDMN"


def chains_up_to(length):
    """All chains of at most so many steps, the empty one first."""
    return ["".join(letters) for many in range(length + 1) for letters in product(STEPS, repeat=many)]


def sign_texts(length):
    """All texts of `^` and newlines with at most so many characters, the empty one first."""
    return ["".join(signs) for many in range(length + 1) for signs in product("\n^", repeat=many)]


def written(run):
    """The text of a run."""
    groups, rest = run
    return "".join(("^" * j + "\n") * many for many, j in groups) + "^" * rest


def read(text):
    """The run of a text of `^` and newlines."""
    *before, behind = text.split("\n")
    return ([(len(list(same)), j) for j, same in groupby(map(len, before))], len(behind))


def slow_step(text, letter):
    """One step, character by character."""
    made = []
    for at, sign in enumerate(text):
        if letter == "U" and sign == "\n":
            made.append("^\n")
        elif letter == "D" and text[at:at + 2] == "^\n":
            continue
        elif letter == "M" and sign == "^":
            made.append("\n")
        elif letter == "N" and sign == "\n":
            made.append("^")
        else:
            made.append(sign)
    return "".join(made)


def slow_convert(text, chain):
    """All steps of a chain, character by character."""
    for letter in chain:
        text = slow_step(text, letter)
    return text


def check_error(test, error, value, function, *given, **named):
    """Check that a call raises exactly this error class with exactly this value."""
    with test.assertRaises(error) as caught:
        function(*given, **named)
    test.assertIs(type(caught.exception), error)
    test.assertEqual(caught.exception.value, value)
    test.assertIs(type(caught.exception.value), type(value))
