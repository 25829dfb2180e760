"""Looks that let all primes by, and some numbers that are none: by powers and by halves."""

from primepapers.checks import MOST, MOST_TRIED, want_between, want_odd
from primepapers.parts import primes_of
from primepapers.rests import greatest_in_both, power_rest


def by_powers(n, base):
    """Whether the base lets n by, by powers."""
    want_look(n, base)
    return power_rest(base, n - 1, n) == 1


def by_halves(n, base):
    """Whether the base lets n by, by halves."""
    want_look(n, base)
    return lets_by_halves(n, base)


def many_by_powers(n):
    """How many bases let n by, by powers."""
    want_counted(n)
    many = 1
    for prime in primes_of(n):
        # A power of the prime has a root, and the prime doesn't go into n - 1: so many by itself let n by.
        many = many * greatest_in_both(n - 1, prime - 1)
    return many


def many_by_halves(n):
    """How many bases let n by, by halves."""
    want_counted(n)
    odd = halved(n - 1)[0]
    halves = [halved(prime - 1) for prime in primes_of(n)]
    # So many bases have the rest 1, and so many the rest n - 1, at the first power.
    ones = 1
    # So many times more have the rest n - 1 with each doubling, until it is too much by some prime.
    more = 1
    for odd_of_prime, often in halves:
        ones = ones * greatest_in_both(odd, odd_of_prime)
        more = more * 2
    many = ones
    found = ones
    for step in range(min([often for odd_of_prime, often in halves])):
        many += found
        found = found * more
    return many


def share_by_halves(n):
    """The share of the bases that let n by, by halves: a tuple (top, bottom) in lowest terms."""
    many = many_by_halves(n)
    both = greatest_in_both(many, n - 1)
    return (many // both, (n - 1) // both)


def want_look(n, base):
    want_odd(n, 3, MOST, "n")
    want_between(base, 1, n - 1, "base")


def want_counted(n):
    want_odd(n, 3, MOST_TRIED, "n")


def lets_by_halves(n, base):
    odd, often = halved(n - 1)
    power = power_rest(base, odd, n)
    if power == 1:
        return True
    for step in range(often):
        if power == n - 1:
            return True
        power = power * power % n
    return False


def halved(number):
    # The odd number that, doubled so often, is the number.
    odd = number
    often = 0
    while odd % 2 == 0:
        odd = odd // 2
        often += 1
    return (odd, often)
