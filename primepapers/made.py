"""Primes made of lesser ones, each with a paper by a share."""

from primepapers.checks import MOST_FIGURES, want_between
from primepapers.full import full_of_prime
from primepapers.looks import lets_by_halves
from primepapers.papers import want_paper
from primepapers.parts import is_prime
from primepapers.rests import greatest_in_both, power_rest

MOST_MADE_OF = 10 ** 15
# Primes of so many figures are found by trying, and those of more are made of them.
FIGURES_TRIED = 9


def made(q, paper, k):
    """The paper of 2 k q + 1 made of q and its paper, with the least base that goes; None where it is no prime."""
    want_between(q, 1, MOST_MADE_OF, "q")
    want_paper(q, paper, "paper")
    want_between(k, 1, (q - 1) // 2, "k")
    return made_of(q, paper, k)


def prime_of(figures):
    """A tuple (prime, paper): a prime of so many figures, and a paper of it."""
    want_between(figures, 1, MOST_FIGURES, "figures")
    return prime_from(figures)


def made_of(q, paper, k):
    # A base that goes lets n by by halves, since it shows a prime. By powers alone all bases might let a number by
    # that is none, up to the least prime in it; by halves no more than a quarter do.
    n = 2 * k * q + 1
    base = 2
    while lets_by_halves(n, base):
        if greatest_in_both(power_rest(base, 2 * k, n) - 1, n) == 1:
            return ("share", base, ((q, 1, paper),))
        base += 1
    return None


def prime_from(figures):
    least = least_of_figures(figures)
    if figures <= FIGURES_TRIED:
        prime = prime_tried(least)
        return (prime, full_of_prime(prime))
    # With one figure more than half there is room for many k, twice k less than q.
    q, paper = prime_from((figures + 3) // 2)
    k = least // (2 * q) + 1
    while made_of(q, paper, k) is None:
        k += 1
    return (2 * k * q + 1, made_of(q, paper, k))


def least_of_figures(figures):
    least = 1
    for step in range(figures - 1):
        least = least * 10
    return least


def prime_tried(least):
    number = least
    while not is_prime(number):
        number += 1
    return number
