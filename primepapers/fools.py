"""Numbers that fool the looks: no primes, and let by all the same."""

from primepapers.checks import MOST_TRIED, is_between, want_between, want_odd
from primepapers.errors import NoBases
from primepapers.looks import lets_by_halves
from primepapers.parts import is_prime, parts_of

MOST_FOOLED = 20000
MOST_FOOLS = 10 ** 5
MOST_BASES = 6
LEAST_BASE = 2
GREATEST_BASE = 50


def fooled(most, bases):
    """The rising list of all odd numbers from 3 to most, no primes, that each of the bases lets by, by halves."""
    want_between(most, 3, MOST_FOOLED, "most")
    want_bases(bases, "bases")
    return [n for n in range(3, most + 1, 2) if all_let_by(n, bases) and not is_prime(n)]


def fools_all(n):
    """Whether n is no prime and each base that shares just 1 with it lets it by, by powers."""
    want_odd(n, 3, MOST_TRIED, "n")
    return lies_to_all(n)


def all_fools(most):
    """The rising list of all odd numbers from 3 to most that fool all."""
    want_between(most, 1, MOST_FOOLS, "most")
    return [n for n in range(3, most + 1, 2) if lies_to_all(n)]


def want_bases(thing, name):
    if not is_bases(thing):
        raise NoBases(f"{name} is no rising tuple of one to six whole numbers from 2 to 50")


def is_bases(thing):
    if not isinstance(thing, tuple) or not 1 <= len(thing) <= MOST_BASES:
        return False
    # The first rises above what is less than the least.
    last = LEAST_BASE - 1
    for base in thing:
        if not is_between(base, last + 1, GREATEST_BASE):
            return False
        last = base
    return True


def all_let_by(n, bases):
    # A base whose rest is 0 has no power with the rest 1 or n - 1, and so lets none by.
    for base in bases:
        if not lets_by_halves(n, base):
            return False
    return True


def lies_to_all(n):
    # All powers n - 1 have the rest 1 where they have it by each prime's power. A prime's power has a root, whose
    # order goes into n - 1 just where the prime stands once and the prime less 1 goes into n - 1.
    parts = parts_of(n)
    if len(parts) == 1:
        return False
    for prime, often in parts:
        if often > 1 or (n - 1) % (prime - 1) != 0:
            return False
    return True
