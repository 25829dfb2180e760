"""The tuples of papers, and papers of the fewest tuples."""

from primepapers.checks import want_between, want_number
from primepapers.other import other_with
from primepapers.papers import ALL_WORDS, tuples_within, want_paper
from primepapers.parts import parts_of, primes_of, want_prime
from primepapers.share import powers_of_parts, share_with

MOST_LEAST = 10 ** 6


def tuples_of(n, paper):
    """How many tuples the paper has, itself too."""
    want_number(n, "n")
    want_paper(n, paper, "paper")
    return len(tuples_within(n, paper))


def kinds_of(n, paper):
    """How many tuples of each kind the paper has, itself too."""
    want_number(n, "n")
    want_paper(n, paper, "paper")
    kinds = {word: 0 for word in ALL_WORDS}
    for number, inner, depth in tuples_within(n, paper):
        kinds[inner[0]] += 1
    return kinds


def fewest_tuples(n):
    """The fewest tuples that a paper of the prime n has."""
    want_least(n)
    known = {}
    reckon_fewest(n, known)
    return known[n][0]


def least_paper(n):
    """A paper of the prime n with the fewest tuples."""
    want_least(n)
    known = {}
    reckon_fewest(n, known)
    return paper_of_fewest(n, known)


def want_least(n):
    want_between(n, 1, MOST_LEAST, "n")
    want_prime(n, "n")


def reckon_fewest(p, known):
    # Known is of each prime the fewest tuples, and the word and the parts of such a paper; each is reckoned once.
    if p in known:
        return
    if p == 2:
        known[p] = (1, "two", ())
        return
    for prime in primes_of(p - 1) + primes_of(p + 1):
        reckon_fewest(prime, known)
    # A full paper has no fewer than a share paper by the same parts.
    ways = [(tuples_with(parts, known), "share", parts) for parts in shares_of(p)]
    ways.append((tuples_with(parts_of(p + 1), known), "other", parts_of(p + 1)))
    known[p] = min(ways)


def tuples_with(parts, known):
    return 1 + sum([known[prime][0] for prime, often in parts])


def shares_of(p):
    # All choices of parts that a share paper may have; each prime as often as it can, so that they are most together.
    choices = [(1, ())]
    for power, prime, often in powers_of_parts(p):
        choices = choices + [(product * power, parts + ((prime, often),)) for product, parts in choices]
    return [parts for product, parts in choices if product * product > p]


def paper_of_fewest(p, known):
    many, word, parts = known[p]
    if word == "two":
        return ("two",)
    rows = tuple([(prime, often, paper_of_fewest(prime, known)) for prime, often in parts])
    return other_with(p, rows) if word == "other" else share_with(p, rows)
