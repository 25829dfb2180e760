import itertools
import math
import unittest

from primepapers.errors import NoNumber, NoPaper, NoPrime
from primepapers.full import full_paper, full_size
from primepapers.least import fewest_tuples, kinds_of, least_paper, tuples_of
from primepapers.made import prime_of
from primepapers.other import other_paper
from primepapers.papers import is_paper
from primepapers.share import share_paper
from tests.helper import (
    GREATEST_PRIME, MOST, MOST_TRIED, WORDS, Case, altered, as_it_stands, made_full, made_mixed, made_other, made_share,
    nested, no_papers, plain_parts, primes_to, reads, wrong_numbers,
)

TWO = ("two",)
THREE = ("full", 2, ((2, 1, TWO),))
OTHER_THREE = ("other", 2, (0, 1), ((2, 2, TWO),))
NO_PRIMES = (1, 4, 6, 9, 15, 25, 561, 1729, 997 * 991, 999 * 999, 10 ** 6 - 1, 10 ** 6)
NEAR_THE_MOST = (999983, 999979, 999961, 999959, 999953, 960961, 990989, 870871, 168887, 138059)


def counted(paper):
    """How many tuples of each kind, row by row."""
    many = dict.fromkeys(WORDS, 0)
    many[paper[0]] += 1
    for prime, often, inner in paper[-1] if paper != TWO else ():
        for word, more in counted(inner).items():
            many[word] += more
    return many


def all_rows(parts, whole):
    """All choices of (prime, often) of these parts; where it is the whole that is wanted, that alone."""
    if whole:
        return [tuple(parts)]
    choices = [[None] + [(prime, often) for often in range(1, most + 1)] for prime, most in parts]
    found = [tuple(part for part in choice if part) for choice in itertools.product(*choices)]
    return [rows for rows in found if rows]


def all_sizes(p, known):
    """The sets of all sizes that full papers, and that papers of any kind, of the small prime have."""
    if p not in known:
        full, other = set(), set()
        if p == 2:
            full.add(1)
        else:
            for kind, number in (("full", p - 1), ("share", p - 1), ("other", p + 1)):
                for parts in all_rows(plain_parts(number), kind != "share"):
                    if goes(p, kind, parts):
                        sizes = [all_sizes(prime, known)[kind != "full"] for prime, often in parts]
                        found = {1 + sum(choice) for choice in itertools.product(*sizes)}
                        (full if kind == "full" else other).update(found)
        known[p] = (full, full | other)
    return known[p]


def goes(p, kind, parts):
    """Whether some paper of the kind has such rows: all bases, and all d and pairs, are gone through."""
    rows = tuple((prime, often, made_full(prime)) for prime, often in parts)
    if kind != "other":
        return any(reads(p, (kind, base, rows)) for base in range(1, p))
    places = itertools.product(range(1, p), range(p), range(p))
    return any(reads(p, ("other", d, (x, y), rows)) for d, x, y in places if (x * x - d * y * y) % p == 1)


def fewest_of(p, known):
    """The fewest, by all choices of parts whose product times itself is greater than p, and by those of p + 1."""
    if p not in known:
        known[p] = 1
        if p > 2:
            ways = [plain_parts(p + 1)]
            for parts in all_rows(plain_parts(p - 1), False):
                if math.prod(prime ** often for prime, often in parts) ** 2 > p:
                    ways.append(parts)
            known[p] = min(1 + sum(fewest_of(prime, known) for prime, often in parts) for parts in ways)
    return known[p]


class TuplesAndKinds(Case):
    def told(self, n, paper, many, kinds):
        before = as_it_stands(paper)
        self.whole(many, tuples_of(n, paper))
        answer = kinds_of(n, paper)
        self.assertIs(type(answer), dict)
        self.assertEqual(sorted(answer), sorted(WORDS))
        self.assertTrue(all(type(answer[word]) is int for word in answer))
        self.assertEqual(answer, dict(zip(WORDS, kinds)))
        self.assertTrue(before == as_it_stands(paper))

    def test_by_hand(self):
        self.told(2, TWO, 1, (1, 0, 0, 0))
        self.told(3, THREE, 2, (1, 1, 0, 0))
        self.told(3, ("share", 2, ((2, 1, TWO),)), 2, (1, 0, 1, 0))
        self.told(3, OTHER_THREE, 2, (1, 0, 0, 1))
        self.told(7, ("full", 3, ((2, 1, TWO), (3, 1, THREE))), 4, (2, 2, 0, 0))
        self.told(7, ("share", 3, ((2, 1, TWO), (3, 1, OTHER_THREE))), 4, (2, 0, 1, 1))
        self.told(7, ("share", 2, ((3, 1, THREE),)), 3, (1, 1, 1, 0))
        self.told(17, ("full", 3, ((2, 4, TWO),)), 2, (1, 1, 0, 0))
        self.told(2 ** 89 - 1, ("other", 3, (2, 1), ((2, 89, TWO),)), 2, (1, 0, 0, 1))
        self.told(29, ("share", 2, ((7, 1, ("share", 2, ((3, 1, OTHER_THREE),))),)), 4, (1, 0, 2, 1))

    def test_as_counted(self):
        for n in primes_to(300):
            papers = [made_full(n), made_mixed(n), made_share(n), full_paper(n), least_paper(n)]
            papers += [made_other(n), share_paper(n), other_paper(n)] if n > 2 else []
            for paper in papers:
                kinds = counted(paper)
                self.told(n, paper, sum(kinds.values()), [kinds[word] for word in WORDS])
            self.assertEqual(tuples_of(n, made_full(n)), full_size(n, made_full(n)))

    def test_great_numbers(self):
        for paper in (made_full(GREATEST_PRIME), made_other(GREATEST_PRIME)):
            kinds = counted(paper)
            self.told(GREATEST_PRIME, paper, sum(kinds.values()), [kinds[word] for word in WORDS])
        for figures in (10, 20, 30):
            n, paper = prime_of(figures)
            kinds = counted(paper)
            self.told(n, paper, sum(kinds.values()), [kinds[word] for word in WORDS])

    def test_the_dict_is_the_askers_own(self):
        first = kinds_of(3, THREE)
        second = kinds_of(3, THREE)
        self.assertIsNot(first, second)
        first.clear()
        first["two"] = "other"
        self.assertEqual(second, {"two": 1, "full": 1, "share": 0, "other": 0})
        self.told(3, THREE, 2, (1, 1, 0, 0))

    def test_what_is_no_paper_of_n_is_refused(self):
        for deed in (tuples_of, kinds_of):
            for n in (1, 2, 3, 4, 11, MOST):
                for thing in no_papers():
                    self.refused(NoPaper, "paper", deed, n, thing)
            self.refused_so(NoPaper, deed, 3, nested("two", 5000))
            self.refused(NoPaper, "paper", deed, 5, THREE)
            self.refused(NoPaper, "paper", deed, 4, THREE)
            self.refused(NoPaper, "paper", deed, 1, TWO)
            self.refused(NoPaper, "paper", deed, 3, list(THREE))
            self.refused(NoPaper, "paper", deed, 3, ("full", 2, ((2, True, TWO),)))
            for thing in altered(made_mixed(23)):
                if reads(23, thing):
                    deed(23, thing)
                else:
                    self.refused(NoPaper, "paper", deed, 23, thing)

    def test_n_is_looked_at_ahead_of_the_paper(self):
        for deed in (tuples_of, kinds_of):
            for thing in wrong_numbers(1, MOST):
                for paper in (TWO, THREE, None, [], ("two", 1)):
                    self.refused(NoNumber, "n", deed, thing, paper)


class Fewest(Case):
    def fewest(self, n, expected):
        self.whole(expected, fewest_tuples(n))
        paper = least_paper(n)
        self.assertIs(reads(n, paper), True, n)
        self.assertIs(is_paper(n, paper), True, n)
        self.assertEqual(tuples_of(n, paper), expected)
        self.assertEqual(sum(counted(paper).values()), expected)
        self.assertEqual(paper, least_paper(n))

    def test_by_hand(self):
        # 3, 5, 7, 13 and 17 by 2 alone, 13 by 4, 17 by 16, 7 by 8; 11 by 3 of 12 and 2, or by 5 of 10.
        for n, many in ((2, 1), (3, 2), (5, 2), (7, 2), (11, 3), (13, 2), (17, 2), (19, 3), (31, 2), (127, 2)):
            self.fewest(n, many)
        self.fewest(65537, 2)
        self.fewest(2 ** 17 - 1, 2)
        self.fewest(2 ** 19 - 1, 2)

    def test_against_all_papers_of_small_primes(self):
        known = {}
        for n in primes_to(47):
            self.fewest(n, min(all_sizes(n, known)[1]))

    def test_against_all_choices_of_parts(self):
        known = {}
        for n in primes_to(3000):
            self.fewest(n, fewest_of(n, known))

    def test_primes_near_the_most_are_answered_quickly(self):
        known = {}
        for n in NEAR_THE_MOST:
            self.fewest(n, fewest_of(n, known))

    def test_no_paper_that_is_told_has_fewer(self):
        for n in primes_to(1000)[1:]:
            for paper in (full_paper(n), share_paper(n), other_paper(n)):
                self.assertLessEqual(fewest_tuples(n), tuples_of(n, paper))

    def test_wrong_things(self):
        for deed in (fewest_tuples, least_paper):
            for thing in wrong_numbers(1, 10 ** 6):
                self.refused(NoNumber, "n", deed, thing)
            for n in (0, -2, 10 ** 6 + 1, 1000003, 999999937, MOST_TRIED, MOST):
                self.refused(NoNumber, "n", deed, n)
            for n in NO_PRIMES:
                self.refused(NoPrime, "n", deed, n)


if __name__ == "__main__":
    unittest.main()
