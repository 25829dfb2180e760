"""Papers by the number one more: by a pair of rests that comes home just behind so many steps."""

from primepapers.checks import want_number, want_tried
from primepapers.full import full_rows
from primepapers.pairs import norm_rest, pair_power, pair_product
from primepapers.papers import is_paper_with
from primepapers.parts import is_prime, parts_of
from primepapers.rests import undoing_rest
from primepapers.signs import unsquare_by


def is_other(n, thing):
    """Whether the thing is a paper of n by the number one more."""
    want_number(n, "n")
    return is_paper_with(n, thing, ("other",))


def other_paper(n):
    """A paper of n by the number one more; None where n is no odd prime."""
    want_tried(n, "n")
    if n == 2 or not is_prime(n):
        return None
    return other_with(n, full_rows(parts_of(n + 1)))


def other_with(p, rows):
    # By d that is no square the pairs of norm 1 are p + 1, the powers of some of them, and each but (1, 0) is met.
    d = unsquare_by(p)
    primes = [row[0] for row in rows]
    first = 0
    while not goes_round(pair_of_norm_one(first, d, p), d, p, primes):
        first += 1
    return ("other", d, pair_of_norm_one(first, d, p), rows)


def pair_of_norm_one(first, d, p):
    pair = (first, 1)
    undoing = undoing_rest(norm_rest(pair, d, p), p)
    x, y = pair_product(pair, pair, d, p)
    return (x * undoing % p, y * undoing % p)


def goes_round(pair, d, p, primes):
    for prime in primes:
        if pair_power(pair, (p + 1) // prime, d, p) == (1, 0):
            return False
    return True
