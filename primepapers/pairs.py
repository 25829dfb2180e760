"""Pairs of rests: products, powers and norms by a far number d and a number n."""

from primepapers.checks import is_far, want_far, want_number, want_often
from primepapers.errors import NoPair


def paired(one, other, d, n):
    """The product of two pairs, as rests."""
    want_pair(one, "one")
    want_pair(other, "other")
    want_far(d, "d")
    want_number(n, "n")
    return pair_product(one, other, d, n)


def pair_raised(pair, often, d, n):
    """The pair (1, 0) multiplied by the pair so often, as rests."""
    want_pair(pair, "pair")
    want_often(often, "often")
    want_far(d, "d")
    want_number(n, "n")
    return pair_power(pair, often, d, n)


def norm_of(pair, d, n):
    """The norm of the pair, as its rest."""
    want_pair(pair, "pair")
    want_far(d, "d")
    want_number(n, "n")
    return norm_rest(pair, d, n)


def is_pair(thing):
    return isinstance(thing, tuple) and len(thing) == 2 and is_far(thing[0]) and is_far(thing[1])


def want_pair(thing, name):
    if not is_pair(thing):
        raise NoPair(f"{name} is no tuple of two far numbers")


def pair_product(one, other, d, n):
    x, y = one
    z, w = other
    return ((x * z + d * y * w) % n, (x * w + y * z) % n)


def pair_power(pair, often, d, n):
    # 1 itself is no rest by 1.
    done = (1 % n, 0)
    square = (pair[0] % n, pair[1] % n)
    left = often
    while left > 0:
        if left % 2 == 1:
            done = pair_product(done, square, d, n)
        square = pair_product(square, square, d, n)
        left = left // 2
    return done


def norm_rest(pair, d, n):
    x, y = pair
    return (x * x - d * y * y) % n
