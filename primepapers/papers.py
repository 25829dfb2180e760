"""Looks at papers of all kinds: whether a thing is a paper of a number."""

from primepapers.checks import is_between, is_whole, want_number
from primepapers.errors import NoPaper
from primepapers.pairs import norm_rest, pair_power
from primepapers.rests import greatest_in_both, power_rest

FULL_WORDS = ("two", "full")
ALL_WORDS = ("two", "full", "share", "other")


def is_paper(n, thing):
    """Whether the thing is a paper of n, of whatever kind."""
    want_number(n, "n")
    return is_paper_with(n, thing, ALL_WORDS)


def want_paper(n, thing, name):
    if not is_paper_with(n, thing, ALL_WORDS):
        raise NoPaper(f"{name} is no paper of the number")


def is_paper_with(n, thing, words):
    # The words are those that the thing itself may begin with; the rest is any paper's affair.
    # What is still to be looked at stands in a list: calls within calls might go too deep.
    left = [(n, thing, words)]
    while len(left) > 0:
        number, paper, wanted = left.pop()
        if not begins_with(paper, wanted) or not shows(number, paper):
            return False
        within = FULL_WORDS if paper[0] == "full" else ALL_WORDS
        for row in rows_of(paper):
            left.append((row[0], row[2], within))
    return True


def begins_with(thing, words):
    return isinstance(thing, tuple) and len(thing) > 0 and isinstance(thing[0], str) and thing[0] in words


def rows_of(paper):
    return () if paper[0] == "two" else paper[-1]


def tuples_within(n, paper):
    # Each tuple of the paper, with its number and with how many stand round it, itself too.
    found = []
    left = [(n, paper, 1)]
    while len(left) > 0:
        number, inner, depth = left.pop()
        found.append((number, inner, depth))
        for row in rows_of(inner):
            left.append((row[0], row[2], depth + 1))
    return found


def rows_product(rows, most):
    # None where they are no rows, or of a number above most. Their papers are not looked at here.
    if not isinstance(rows, tuple) or len(rows) == 0:
        return None
    product = 1
    # A prime is from 2 on, so the first one rises above 1.
    last = 1
    for row in rows:
        if not is_row(row) or row[0] <= last:
            return None
        last = row[0]
        product = multiplied(product, last, row[1], most)
        if product > most:
            return None
    return product


def is_row(thing):
    if not isinstance(thing, tuple) or len(thing) != 3:
        return False
    return is_whole(thing[0]) and is_whole(thing[1]) and thing[1] >= 1


def multiplied(product, prime, often, most):
    # A row may claim any often, so multiplying ends where it is more than most.
    left = often
    while left > 0 and product <= most:
        product = product * prime
        left -= 1
    return product


def shows_two(n, paper):
    return len(paper) == 1 and n == 2


def shows_full(n, paper):
    if len(paper) != 3:
        return False
    base, rows = paper[1:]
    if rows_product(rows, n - 1) != n - 1 or not comes_home(base, n):
        return False
    for row in rows:
        if power_rest(base, (n - 1) // row[0], n) == 1:
            return False
    return True


def shows_share(n, paper):
    if len(paper) != 3 or n % 2 == 0:
        return False
    base, rows = paper[1:]
    if not is_great_share(rows_product(rows, n - 1), n) or not comes_home(base, n):
        return False
    for row in rows:
        if greatest_in_both(power_rest(base, (n - 1) // row[0], n) - 1, n) != 1:
            return False
    return True


def is_great_share(product, n):
    return product is not None and (n - 1) % product == 0 and product * product > n


def comes_home(base, n):
    return is_between(base, 1, n - 1) and power_rest(base, n - 1, n) == 1


def shows_other(n, paper):
    if len(paper) != 4 or n % 2 == 0:
        return False
    d, pair, rows = paper[1:]
    if rows_product(rows, n + 1) != n + 1 or not pair_comes_home(pair, d, n):
        return False
    for row in rows:
        x, y = pair_power(pair, (n + 1) // row[0], d, n)
        if greatest_in_both((x - 1) * (x - 1) - d * y * y, n) != 1:
            return False
    return True


def pair_comes_home(pair, d, n):
    if not is_between(d, 1, n - 1) or greatest_in_both(d, n) != 1 or not is_pair_of_rests(pair, n):
        return False
    return norm_rest(pair, d, n) == 1 and pair_power(pair, n + 1, d, n) == (1, 0)


def is_pair_of_rests(thing, n):
    if not isinstance(thing, tuple) or len(thing) != 2:
        return False
    return is_between(thing[0], 0, n - 1) and is_between(thing[1], 0, n - 1)


LOOKS = {"two": shows_two, "full": shows_full, "share": shows_share, "other": shows_other}


def shows(n, paper):
    # Whether n is prime if the primes of the rows are; their papers are looked at by themselves.
    look = LOOKS[paper[0]]
    return look(n, paper)
