"""Primes, and the parts of a number, found by trying numbers up to the root."""

from primepapers.checks import MOST_TRIED, want_between, want_tried
from primepapers.errors import NoPrime


def is_prime(number):
    """Whether the number is a prime."""
    want_between(number, 0, MOST_TRIED, "number")
    return number > 1 and least_part(number, 2) == number


def parts_of(number):
    """The rising tuple of tuples (prime, often) that, multiplied together, are the number."""
    want_tried(number, "number")
    found = []
    left = number
    tried = 2
    while left > 1:
        # All primes less than the last one are out of what is left, so trying goes on from there.
        tried = least_part(left, tried)
        often = 0
        while left % tried == 0:
            left = left // tried
            often += 1
        found.append((tried, often))
    return tuple(found)


def want_prime(thing, name):
    want_tried(thing, name)
    if not is_prime(thing):
        raise NoPrime(f"{name} is no prime")


def want_odd_prime(thing, name):
    want_prime(thing, name)
    if thing == 2:
        raise NoPrime(f"{name} is no odd prime")


def primes_of(number):
    return [prime for prime, often in parts_of(number)]


def least_part(number, start):
    # Nothing from 2 to start - 1 goes into the number; where nothing up to its root does either, it is a prime.
    tried = start
    while tried * tried <= number:
        if number % tried == 0:
            return tried
        tried += 1
    return number
