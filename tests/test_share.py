import itertools
import math
import unittest

from primepapers.errors import NoNumber, NoPrime
from primepapers.papers import is_paper
from primepapers.share import fewest_rows, is_share, share_paper
from tests.helper import (
    GREAT_PRIMES, GREATEST_PRIME, MOST, MOST_TRIED, Case, as_it_stands, made_full, made_mixed, made_other, made_share,
    nested, no_papers, plain_parts, primes_to, reads, share_of, wrong_numbers,
)

TWO = ("two",)
THREE = ("full", 2, ((2, 1, TWO),))
FIVE = ("full", 2, ((2, 2, TWO),))
SHARE = ("share",)
NEAR_THE_MOST = (999999937, 999999929, 999999893, 999999883, 999999797)
NO_PRIMES = (1, 4, 6, 9, 15, 561, 1729, 997 * 1009, 31607 ** 2, 31601 * 31607, MOST_TRIED - 1, MOST_TRIED)
MERSENNE = 2 ** 89 - 1
OF_MERSENNE = ("other", 3, (2, 1), ((2, 89, TWO),))


def all_choices(number, maker=made_full):
    """All rows of all numbers that go into the number, but 1."""
    choices = []
    for prime, most in plain_parts(number):
        choices.append([None] + [(prime, often, maker(prime)) for often in range(1, most + 1)])
    for choice in itertools.product(*choices):
        rows = tuple(row for row in choice if row is not None)
        if rows:
            yield rows


def product_of(rows):
    return math.prod(prime ** often for prime, often, paper in rows)


def goes_with(n, base, prime):
    return pow(base, n - 1, n) == 1 and math.gcd(pow(base, (n - 1) // prime, n) - 1, n) == 1


class IsShare(Case):
    def test_by_hand(self):
        for n, paper in (
            (3, ("share", 2, ((2, 1, TWO),))),
            (5, ("share", 2, ((2, 2, TWO),))),
            (7, ("share", 2, ((3, 1, THREE),))),
            (7, ("share", 3, ((2, 1, TWO), (3, 1, THREE)))),
            (7, ("share", 2, ((3, 1, ("share", 2, ((2, 1, TWO),))),))),
            (7, ("share", 2, ((3, 1, ("other", 2, (0, 1), ((2, 2, TWO),))),))),
            (11, ("share", 3, ((5, 1, FIVE),))),
            (29, ("share", 2, ((7, 1, ("share", 2, ((3, 1, THREE),))),))),
        ):
            self.assertIs(is_share(n, paper), True)
            for other in (1, 2, 3, 4, 5, 6, 7, 8, 9, 11, 29, 31, MOST):
                self.assertIs(is_share(other, paper), reads(other, paper, SHARE), (other, paper))

    def test_each_base_and_all_choices_of_rows(self):
        for n in range(1, 130):
            for rows in all_choices(n - 1) if n > 1 else ():
                for base in range(-1, n + 2):
                    paper = ("share", base, rows)
                    self.assertIs(is_share(n, paper), reads(n, paper, SHARE), (n, paper))

    def test_numbers_that_are_no_primes_have_none(self):
        for n in (9, 15, 25, 49, 91, 341, 561, 1105, 1729, 2047, 2465, 2821, 6601, 8911):
            for rows in all_choices(n - 1):
                for base in (*range(1, min(n, 60)), n - 2, n - 1):
                    self.assertIs(is_share(n, ("share", base, rows)), False)

    def test_the_product_times_itself_must_be_greater_than_n(self):
        # 17 is 4 times 4 and 1, and so on: the roots go as bases, the rows are too few.
        for n, root, parts in (
            (5, 2, ((2, 1),)), (17, 3, ((2, 2),)), (37, 2, ((2, 1), (3, 1))), (101, 2, ((2, 1), (5, 1))),
        ):
            rows = tuple((prime, often, made_full(prime)) for prime, often in parts)
            self.assertEqual(product_of(rows) ** 2, n - 1)
            self.assertIs(is_share(n, ("share", root, rows)), False)
        for n, root, parts in ((7, 3, ((3, 1),)), (13, 2, ((2, 2),)), (31, 3, ((2, 1), (3, 1))), (43, 3, ((7, 1),))):
            rows = tuple((prime, often, made_full(prime)) for prime, often in parts)
            self.assertGreater(product_of(rows) ** 2, n)
            self.assertIs(is_share(n, ("share", root, rows)), True)

    def test_all_products_of_greater_primes(self):
        for n in (2311, 4001, 7561, 9241):
            root = made_full(n)[1]
            for rows in all_choices(n - 1):
                self.assertIs(is_share(n, ("share", root, rows)), product_of(rows) ** 2 > n)

    def test_rows_of_what_does_not_go_into_the_number_one_less(self):
        for n in primes_to(60)[1:]:
            for prime, often in itertools.product((2, 3, 5, 7, 11), (1, 2, 3, 4, 5)):
                for base in range(1, n):
                    paper = ("share", base, ((prime, often, made_full(prime)),))
                    self.assertIs(is_share(n, paper), reads(n, paper, SHARE))
                    if (n - 1) % prime ** often:
                        self.assertIs(is_share(n, paper), False)

    def test_even_numbers_have_none(self):
        for n in (2, 4, 10, 28, MOST):
            for base, prime, often in itertools.product((1, 2, 3, 9), (2, 3), (1, 2, 3)):
                self.assertIs(is_share(n, ("share", base, ((prime, often, made_full(prime)),))), False)

    def test_any_papers_within(self):
        for n in (7, 11, 23, 29, 43, 47, 83, 107):
            for maker in (made_full, made_share, made_mixed, lambda p: TWO if p == 2 else made_other(p)):
                for rows in all_choices(n - 1, maker):
                    if product_of(rows) ** 2 > n:
                        paper = share_of(n, rows)
                        self.assertIs(is_share(n, paper), True)
                        self.assertIs(is_paper(n, paper), True)

    def test_papers_of_other_kinds_are_none(self):
        for n in (3, 5, 7, 11, 31, 83):
            self.assertIs(is_share(n, made_full(n)), False)
            self.assertIs(is_share(n, made_other(n)), False)
        self.assertIs(is_share(2, TWO), False)
        # A full paper within must be full through and through.
        inner = ("full", 3, ((2, 1, TWO), (3, 1, ("share", 2, ((2, 1, TWO),)))))
        self.assertIs(is_share(29, ("share", 2, ((7, 1, inner),))), False)

    def test_one_thing_otherwise(self):
        for n in (3, 5, 7, 29, 31, 43):
            for maker in (share_paper, made_share):
                self.read_alike(n, maker(n), is_share, SHARE)
        self.read_alike(83, share_of(83, ((41, 1, made_mixed(41)),)), is_share, SHARE)
        self.read_alike(59, share_of(59, ((29, 1, made_other(29)),)), is_share, SHARE)

    def test_truths_are_no_numbers(self):
        self.assertIs(is_share(3, ("share", 2, ((2, True, TWO),))), False)
        self.assertIs(is_share(7, ("share", 2, ((3, True, THREE),))), False)
        self.assertIs(is_share(7, ("share", 2, ((3, 1, ("full", 2, ((2, True, TWO),))),))), False)
        self.assertIs(is_share(7, ("share", 2, ((3, 1, ("other", 2, (False, 1), ((2, 2, TWO),))),))), False)

    def test_great_numbers(self):
        great = GREAT_PRIMES[1]
        row = (great, 1, made_full(great))
        for rows in ((row,), ((2, 1, TWO), (11, 1, made_share(11)), row)):
            paper = share_of(GREATEST_PRIME, rows)
            self.assertIs(is_share(GREATEST_PRIME, paper), True)
            for n in (MOST, MOST - 1, GREATEST_PRIME - 2):
                self.assertIs(is_share(n, paper), False)
            for base in (paper[1] + GREATEST_PRIME, paper[1] - GREATEST_PRIME, 0, 1, GREATEST_PRIME, None):
                self.assertIs(is_share(GREATEST_PRIME, ("share", base, rows)), False)
        few = ((2, 2, TWO), (11, 1, made_full(11)), (49333, 1, made_full(49333)))
        self.assertIs(is_share(GREATEST_PRIME, ("share", 2, few)), False)
        self.assertIs(is_share(GREATEST_PRIME, ("share", made_full(GREATEST_PRIME)[1], few)), False)
        made = 2 * 798 * MERSENNE + 1
        self.assertIs(is_share(made, share_of(made, ((MERSENNE, 1, OF_MERSENNE),))), True)
        self.assertIs(is_share(made + 2, ("share", 2, ((MERSENNE, 1, OF_MERSENNE),))), False)
        self.assertIs(is_share(MOST - 1, ("share", 2, ((MERSENNE, 1, OF_MERSENNE),))), False)

    def test_a_chain_of_papers(self):
        # Each stands within the next, as deep as the numbers go.
        q, paper, depth = 3, ("share", 2, ((2, 1, TWO),)), 2
        while q < 10 ** 28:
            goes = [(n, base) for n in range(2 * q + 1, q * q, 2 * q)[:400] for base in (2, 3) if goes_with(n, base, q)]
            n, base = goes[0]
            q, paper, depth = n, ("share", base, ((q, 1, paper),)), depth + 1
            self.assertIs(is_share(q, paper), True)
        self.assertGreater(depth, 25)
        self.assertIs(is_share(q, ("share", base + q, paper[2])), False)

    def test_things_that_are_none(self):
        for n in (1, 2, 3, 4, 5, 7, 9, 11, 401, MOST - 1, MOST):
            for thing in no_papers():
                before = as_it_stands(thing)
                self.assertIs(is_share(n, thing), False)
                self.assertTrue(before == as_it_stands(thing))
            self.assertIs(is_share(n, nested("two", 5000)), False)

    def test_wrong_numbers(self):
        for thing in wrong_numbers(1, MOST):
            self.refused(NoNumber, "n", is_share, thing, ("share", 2, ((2, 1, TWO),)))
            self.refused(NoNumber, "n", is_share, thing, None)


class SharePaper(Case):
    def test_of_all_numbers_to_some_thousand(self):
        primes = primes_to(5000)
        for n in range(1, 5001):
            paper = share_paper(n)
            if n in primes and n != 2:
                self.assertIs(reads(n, paper, SHARE), True, n)
                self.assertIs(is_share(n, paper), True, n)
                self.assertIs(is_paper(n, paper), True, n)
            else:
                self.assertIsNone(paper, n)

    def test_great_primes_are_answered_quickly(self):
        for n in NEAR_THE_MOST:
            paper = share_paper(n)
            self.assertIs(reads(n, paper, SHARE), True)
            self.assertIs(is_share(n, paper), True)
            self.assertEqual(paper, share_paper(n))

    def test_no_primes_and_2(self):
        for n in (2, *NO_PRIMES):
            self.assertIsNone(share_paper(n))

    def test_wrong_things(self):
        for thing in wrong_numbers(1, MOST_TRIED):
            self.refused(NoNumber, "n", share_paper, thing)


class FewestRows(Case):
    def test_by_hand(self):
        # 30 is 2, 3 and 5: 5 times 5 is less than 31; 210 is 2, 3, 5, 7, and 2310 11 too.
        for n, many in ((3, 1), (5, 1), (7, 1), (11, 1), (13, 1), (31, 2), (37, 1), (211, 2), (2311, 2), (65537, 1)):
            self.whole(many, fewest_rows(n))

    def test_against_all_choices_of_rows(self):
        for n in (*primes_to(700)[1:], 2311, 4621, 9241, 30059, 120121):
            root = made_full(n)[1]
            goes = [len(rows) for rows in all_choices(n - 1) if reads(n, ("share", root, rows))]
            self.whole(min(goes), fewest_rows(n))

    def test_no_base_goes_with_fewer_rows(self):
        for n in primes_to(80)[1:]:
            fewest = fewest_rows(n)
            for rows in all_choices(n - 1):
                goes = any(is_share(n, ("share", base, rows)) for base in range(1, n))
                self.assertEqual(goes, product_of(rows) ** 2 > n)
                self.assertTrue(len(rows) >= fewest or not goes)

    def test_great_primes_are_answered_quickly(self):
        # Of 999999936: 64, 9, 13, 83 and 1609; 1609 by itself is too little.
        self.whole(2, fewest_rows(999999937))
        for n in NEAR_THE_MOST:
            powers = [prime ** often for prime, often in plain_parts(n - 1)]
            many = next(
                many for many in range(1, 10)
                if any(math.prod(some) ** 2 > n for some in itertools.combinations(powers, many))
            )
            self.whole(many, fewest_rows(n))
        # All primes from 3 to 23 once each, 2 three times: 23, 19 and 17 are together too little.
        self.whole(4, fewest_rows(892371481))
        # 31, 17, 13, 11, 9: 31, 17 and 13 are a little less than the root.
        self.whole(4, fewest_rows(47477431))

    def test_wrong_things(self):
        for thing in wrong_numbers(1, MOST_TRIED):
            self.refused(NoNumber, "n", fewest_rows, thing)
        for n in (2, *NO_PRIMES):
            self.refused(NoPrime, "n", fewest_rows, n)


if __name__ == "__main__":
    unittest.main()
