"""Papers by a share: by some parts of the number one less, together more than the root of the number."""

from primepapers.checks import want_number, want_tried
from primepapers.full import full_rows
from primepapers.orders import least_base
from primepapers.papers import is_paper_with
from primepapers.parts import is_prime, parts_of, want_odd_prime
from primepapers.rests import power_rest


def is_share(n, thing):
    """Whether the thing is a share paper of n."""
    want_number(n, "n")
    return is_paper_with(n, thing, ("share",))


def share_paper(n):
    """A share paper of n of the fewest rows; None where n is no odd prime."""
    want_tried(n, "n")
    if n == 2 or not is_prime(n):
        return None
    return share_with(n, full_rows(sorted(fewest_parts(n))))


def share_with(p, rows):
    return ("share", least_base(p, [row[0] for row in rows]), rows)


def fewest_rows(n):
    """The fewest rows that a share paper of the odd prime n has."""
    want_odd_prime(n, "n")
    return len(fewest_parts(n))


def fewest_parts(p):
    # So many rows make no more than the greatest powers of primes do, and a root is a base for any of them.
    taken = []
    product = 1
    for power, prime, often in sorted(powers_of_parts(p), reverse=True):
        if product * product <= p:
            product = product * power
            taken.append((prime, often))
    return taken


def powers_of_parts(p):
    # Each power is less than p, and so is its own rest by p.
    return [(power_rest(prime, often, p), prime, often) for prime, often in parts_of(p - 1)]
