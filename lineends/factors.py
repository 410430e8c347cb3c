"""Primes, and the fewest steps of forms, which depend on the prime factors of k."""


def prime_factors(k):
    """Return the ascending list of the prime factors of k, each as often as it divides k."""
    factors = []
    divisor = 2
    while divisor * divisor <= k:
        while k % divisor == 0:
            factors.append(divisor)
            k //= divisor
        divisor += 1 if divisor == 2 else 2
    if k > 1:
        factors.append(k)
    return factors


def divisors(k):
    """Return the ascending list of the divisors of k."""
    found = [1]
    for prime in prime_factors(k):
        # A prime that comes again makes the same products again: unless they are dropped at once, they pile up.
        found = sorted(set(found + [prime * divisor for divisor in found]))
    return found


def primes_up_to(top):
    """Return the ascending list of the primes up to a number."""
    primes = []
    for number in range(2, top + 1):
        if prime_factors(number) == [number]:
            primes.append(number)
    return primes


def primes_of_form(wanted):
    """Return the ascending list of the prime factors of a form's k; a form that keeps the groups has none."""
    if wanted[0] == "keep":
        return []
    return prime_factors(wanted[3])


def steps_of_form(wanted):
    """Return the fewest steps of a valid form."""
    steps = wanted[1] + wanted[2]
    if wanted[0] == "keep":
        return steps
    return steps + 1 + sum(primes_of_form(wanted)) + sum(wanted[4:])
