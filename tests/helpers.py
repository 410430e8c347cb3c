"""What several tests need: slow ways to the same results, small and wrong arguments, and a check of errors."""

from functools import lru_cache
from itertools import groupby, product

STEPS = "UDMN"
GREAT = 10 ** 30 - 1

# Tuples that are no forms.
NO_FORMS = [
    (), ("keep",), ("lf",), ("cr",), ("",), ("stay", 0, 0), ("Keep", 0, 0), ("", 0, 0), ("lf cr", 0, 0, 1, 0),
    ("keep", 0), ("keep", 0, 0, 1), ("keep", 0, 0, 1, 0), ("lf", 0, 0, 1), ("lf", 0, 0, 1, 0, 0), ("lf", 0, 0),
    ("cr", 0, 0), ("cr", 0, 0, 1, 0), ("keep", -1, 0), ("keep", 0, -1), ("keep", -1, -1),
    ("lf", -1, 0, 1, 0), ("lf", 0, -1, 1, 0), ("lf", 0, 0, -1, 0), ("lf", 0, 0, 1, -1), ("lf", 0, 0, 0, 0),
    ("cr", -1, 0, 1), ("cr", 0, -1, 1), ("cr", 0, 0, -1), ("cr", 0, 0, 0), ("cr", 1, 1, 0), ("lf", 1, 1, 0, 1),
    (0, "keep", 0), (0, 0, 0), ("keep", -GREAT, GREAT),
]

# Runs that are not valid, with the value of the error.
INVALID_RUNS = [
    (([(0, 0)], 0), 0),
    (([(-1, 2)], 0), 0),
    (([(1, -1)], 0), 0),
    (([(1, 0), (0, 1)], 0), 1),
    (([(1, 0), (1, -1)], 0), 1),
    (([(1, 2), (3, 2)], 0), 1),
    (([(1, 0), (1, 1), (1, 1)], 0), 2),
    (([(1, 0), (1, 1), (1, 0), (-5, 1)], 0), 3),
    (([(1, 0), (1, 0), (0, 1)], 0), 1),
    (([(1, 0), (0, 1), (1, 1)], 0), 1),
    (([(1, -1), (1, -1)], 0), 0),
    (([(0, -1), (1, 0)], 0), 0),
    (([], -1), None),
    (([(1, 0)], -1), None),
    (([(GREAT, GREAT), (1, 0)], -GREAT), None),
    (([(1, 0), (1, 0)], -1), 1),
    (([(0, 0)], -1), 0),
    (([(1, -1)], -1), 0),
    (([(1, at) for at in range(39)] + [(1, 38)], 0), 39),
]


def chains_up_to(length):
    """All chains of at most so many steps, the empty one first."""
    return ["".join(letters) for many in range(length + 1) for letters in product(STEPS, repeat=many)]


def small_forms(top):
    """All forms with numbers up to top."""
    return ([("keep", b, a) for b, a in product(range(top + 1), repeat=2)]
            + [("lf", b, a, k, c) for b, a, k, c in product(range(top + 1), repeat=4) if k > 0]
            + [("cr", b, a, k) for b, a, k in product(range(top + 1), repeat=3) if k > 0])


def sign_texts(length):
    """All texts of `^` and newlines with at most so many characters, the empty one first."""
    return ["".join(signs) for many in range(length + 1) for signs in product("\n^", repeat=many)]


def written(run):
    """The text of a run."""
    groups, rest = run
    return "".join(("^" * j + "\n") * many for many, j in groups) + "^" * rest


def read(text):
    """The run of a text of `^` and newlines."""
    *before, behind = text.split("\n")
    return ([(len(list(same)), j) for j, same in groupby(map(len, before))], len(behind))


def slow_step(text, letter):
    """One step, character by character."""
    made = []
    for at, sign in enumerate(text):
        if letter == "U" and sign == "\n":
            made.append("^\n")
        elif letter == "D" and text[at:at + 2] == "^\n":
            continue
        elif letter == "M" and sign == "^":
            made.append("\n")
        elif letter == "N" and sign == "\n":
            made.append("^")
        else:
            made.append(sign)
    return "".join(made)


def slow_convert(text, chain):
    """All steps of a chain, character by character."""
    for letter in chain:
        text = slow_step(text, letter)
    return text


@lru_cache(None)
def slow_primes(k):
    """The prime factors of k, the least first."""
    for divisor in range(2, k + 1):
        if k % divisor == 0:
            return (divisor, *slow_primes(k // divisor))
    return ()


def first_of(function):
    """A function that asks what a function yields for its first value."""
    return lambda *given, **named: next(iter(function(*given, **named)))


def check_error(test, error, value, function, *given, **named):
    """Check that a call raises exactly this error class with exactly this value."""
    with test.assertRaises(error) as caught:
        function(*given, **named)
    test.assertIs(type(caught.exception), error)
    test.assertEqual(caught.exception.value, value)
    test.assertIs(type(caught.exception.value), type(value))
