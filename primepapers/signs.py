"""Signs of squares, a look by signs, and roots of squares by a prime."""

from primepapers.checks import MOST, want_between, want_far, want_odd
from primepapers.looks import want_look
from primepapers.pairs import pair_power
from primepapers.parts import want_odd_prime, want_prime
from primepapers.rests import power_rest

MOST_ROOTED = 10 ** 6


def sign(number, n):
    """The sign of the number by the odd number n: -1, 0 or 1."""
    want_far(number, "number")
    want_odd(n, 1, MOST, "n")
    return sign_by(number, n)


def by_signs(n, base):
    """Whether the base lets n by, by signs."""
    want_look(n, base)
    found = sign_by(base, n)
    return found != 0 and power_rest(base, (n - 1) // 2, n) == found % n


def least_unsquare(p):
    """The least whole number from 1 on whose sign by the odd prime p is -1."""
    want_odd_prime(p, "p")
    return unsquare_by(p)


def root_by(number, p):
    """The least whole number from 0 on whose square has the number's rest by the prime p; None where there is none."""
    want_far(number, "number")
    want_between(p, 1, MOST_ROOTED, "p")
    want_prime(p, "p")
    rest = number % p
    if rest == 0 or p == 2:
        return rest
    if sign_by(rest, p) == -1:
        return None
    return root_of_square(rest, p)


def sign_by(number, n):
    # Throughout, the sign asked for is found times the sign of top by bottom.
    top = number % n
    bottom = n
    found = 1
    while top > 0:
        while top % 2 == 0:
            top = top // 2
            if bottom % 8 == 3 or bottom % 8 == 5:
                found = -found
        if top % 4 == 3 and bottom % 4 == 3:
            found = -found
        top, bottom = bottom % top, top
    return found if bottom == 1 else 0


def unsquare_by(p):
    number = 1
    while sign_by(number, p) != -1:
        number += 1
    return number


def root_of_square(square, p):
    # By d that is no square a pair's power p + 1 is its norm. The norm of (first, 1) is the square here, so its power
    # half as often is a root.
    first = 0
    while sign_by(first * first - square, p) != -1:
        first += 1
    root = pair_power((first, 1), (p + 1) // 2, first * first - square, p)[0]
    return min(root, p - root)
