"""Runs and forms as texts."""


def show_run(run):
    """Return the text of a run."""
    groups, rest = run
    words = [digits_of(many) + "x" + digits_of(j) for many, j in groups]
    if rest > 0 or not groups:
        words.append("+" + digits_of(rest))
    return " ".join(words)


def show_form(wanted):
    """Return the text of a form."""
    return " ".join([wanted[0]] + [digits_of(number) for number in wanted[1:]])


def digits_of(number):
    """Return the digits of a number that is not negative."""
    # Piece by piece, since Python refuses to write more than some thousand digits at once.
    limit = 10 ** 64
    pieces = []
    while number >= limit:
        number, low = divmod(number, limit)
        pieces.append(str(low).zfill(64))
    pieces.append(str(number))
    return "".join(reversed(pieces))
