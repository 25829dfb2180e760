"""Orders by a number, and the roots of a prime, reckoned by parts."""

from primepapers.checks import want_far, want_tried
from primepapers.errors import TooGreat
from primepapers.parts import parts_of, primes_of, want_prime
from primepapers.rests import greatest_in_both, power_rest

MOST_ALL_ROOTS = 1000


def order_of(number, n):
    """The least power from 1 on of number that has the rest of 1 by n; None where they share more than 1."""
    want_far(number, "number")
    want_tried(n, "n")
    if greatest_in_both(number, n) != 1:
        return None
    # The order goes into how many rests there are, so what is too much in that is taken out of it.
    often = many_rests(n)
    for prime in primes_of(often):
        while often % prime == 0 and power_rest(number, often // prime, n) == 1 % n:
            often = often // prime
    return often


def many_rests(n):
    """How many whole numbers from 1 to n share just 1 with n."""
    want_tried(n, "n")
    many = 1
    left = n
    for prime, often in parts_of(n):
        many = many * (prime - 1)
        left = left // prime
    return many * left


def least_root(p):
    """The least root of the prime p."""
    want_prime(p, "p")
    return least_base(p, primes_of(p - 1))


def many_of_order(p, often):
    """How many whole numbers from 1 to p - 1 have that order by the prime p."""
    want_prime(p, "p")
    want_tried(often, "often")
    if (p - 1) % often != 0:
        return 0
    return many_rests(often)


def all_roots(p):
    """The rising list of all roots of the prime p."""
    want_prime(p, "p")
    if p > MOST_ALL_ROOTS:
        raise TooGreat(p, MOST_ALL_ROOTS)
    primes = primes_of(p - 1)
    return [base for base in range(1, p) if is_base(base, p, primes)]


def least_base(p, primes):
    # A root goes whichever primes of p - 1 are asked for, so one is found.
    base = 1
    while not is_base(base, p, primes):
        base += 1
    return base


def is_base(base, p, primes):
    for prime in primes:
        if power_rest(base, (p - 1) // prime, p) == 1:
            return False
    return True
