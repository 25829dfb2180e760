"""Full papers: by a root of the prime and all parts of the number one less."""

from primepapers.checks import want_number, want_tried
from primepapers.errors import NoPaper
from primepapers.orders import least_base, many_rests
from primepapers.papers import FULL_WORDS, is_paper_with, tuples_within
from primepapers.parts import is_prime, parts_of, primes_of


def is_full(n, thing):
    """Whether the thing is a full paper of n."""
    want_number(n, "n")
    return is_paper_with(n, thing, FULL_WORDS)


def full_paper(n):
    """The full paper of n with the least base that goes, and so all within it; None where n is no prime."""
    want_tried(n, "n")
    if not is_prime(n):
        return None
    return full_of_prime(n)


def full_of_prime(p):
    if p == 2:
        return ("two",)
    return ("full", least_base(p, primes_of(p - 1)), full_rows(parts_of(p - 1)))


def full_rows(parts):
    return tuple([(prime, often, full_of_prime(prime)) for prime, often in parts])


def many_full(n):
    """How many full papers n has."""
    want_tried(n, "n")
    if not is_prime(n):
        return 0
    return many_of_prime(n)


def many_of_prime(p):
    # The bases are the roots, and each stands with each choice of papers in the rows.
    many = many_rests(p - 1)
    for prime in primes_of(p - 1):
        many = many * many_of_prime(prime)
    return many


def full_size(n, paper):
    """How many tuples "two" and "full" the full paper has, itself too."""
    want_full(n, paper)
    return len(tuples_within(n, paper))


def full_depth(n, paper):
    """How many of its tuples "two" and "full" stand within one another at most."""
    want_full(n, paper)
    return max([depth for number, inner, depth in tuples_within(n, paper)])


def full_primes(n, paper):
    """The rising tuple of all primes that the full paper is about, each once."""
    want_full(n, paper)
    return tuple(sorted({number for number, inner, depth in tuples_within(n, paper)}))


def want_full(n, paper):
    if not is_full(n, paper):
        raise NoPaper("paper is no full paper of n")
