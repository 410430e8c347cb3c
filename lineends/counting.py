"""Forms with given fewest steps: how many there are, and all of them."""

from lineends.checks import check_not_negative
from lineends.factors import primes_up_to


def count_forms(steps):
    """Return the number of forms with exactly these fewest steps."""
    check_not_negative(steps)
    many = steps + 1
    for total, many_k in enumerate(counts_of_k(steps)):
        # One step less is left for b and a, or for b, a and c.
        left = steps - total
        many += many_k * (left + left * (left + 1) // 2)
    return many


def forms_with(steps):
    """Yield the forms with exactly these fewest steps, in ascending order."""
    check_not_negative(steps)
    ks = lists_of_k(steps)
    for b in range(steps):
        for a in range(steps - b):
            for k in ks[steps - 1 - b - a]:
                yield ("cr", b, a, k)
    for b in range(steps + 1):
        yield ("keep", b, steps - b)
    pairs = [pairs_of_k(ks, left) for left in range(steps)]
    for b in range(steps):
        for a in range(steps - b):
            for k, c in pairs[steps - 1 - b - a]:
                yield ("lf", b, a, k, c)


def counts_of_k(top):
    """Return a list: at each total up to top, how many k have prime factors with this sum."""
    counts = [1] + [0] * top
    for prime in primes_up_to(top):
        for total in range(prime, top + 1):
            counts[total] += counts[total - prime]
    return counts


def lists_of_k(top):
    """Return a list: at each total up to top, the ascending list of all k whose prime factors have this sum."""
    ks = [[1]] + [[] for _ in range(top)]
    for prime in primes_up_to(top):
        for total in range(prime, top + 1):
            ks[total] = ks[total] + [k * prime for k in ks[total - prime]]
    return [sorted(each) for each in ks]


def pairs_of_k(ks, left):
    """Return all pairs of a k and a c for which so many steps are left, in ascending order."""
    return sorted([(k, left - total) for total in range(left + 1) for k in ks[total]])
