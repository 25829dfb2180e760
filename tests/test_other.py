import itertools
import math
import unittest

from primepapers.errors import NoNumber
from primepapers.full import full_paper, is_full
from primepapers.other import is_other, other_paper
from primepapers.papers import is_paper
from primepapers.share import is_share, share_paper
from tests.helper import (
    GREATEST_PRIME, MOST, MOST_TRIED, Case, altered, as_it_stands, made_full, made_mixed, made_other, made_rows,
    made_share, nested, no_papers, plain_parts, primes_to, reads, steps_home, wrong_numbers,
)

TWO = ("two",)
THREE = ("full", 2, ((2, 1, TWO),))
OTHER = ("other",)
OTHER_THREE = ("other", 2, (0, 1), ((2, 2, TWO),))
NEAR_THE_MOST = (999999937, 999999929, 999999893, 999999883, 999999797)
NO_PRIMES = (
    1, 4, 6, 9, 15, 323, 377, 561, 1729, 5777, 997 * 1009, 31607 ** 2, 31601 * 31607, MOST_TRIED - 1, MOST_TRIED,
)


class IsOther(Case):
    def test_by_hand(self):
        self.assertIs(is_other(3, OTHER_THREE), True)
        # By 2 and 5 the pair (3, 2) goes on to (2, 2), (4, 0), (2, 3), (3, 3) and (1, 0); (2, 2) is home behind three.
        self.assertIs(is_other(5, ("other", 2, (3, 2), ((2, 1, TWO), (3, 1, THREE)))), True)
        self.assertIs(is_other(5, ("other", 2, (2, 2), ((2, 1, TWO), (3, 1, THREE)))), False)
        # 3 is no square by these, and (2, 1) comes home just behind a power of 2.
        for often in (3, 5, 7, 13, 17, 19, 31, 61, 89):
            self.assertIs(is_other(2 ** often - 1, ("other", 3, (2, 1), ((2, often, TWO),))), True)
        for often in (1, 2, 4, 6, 8, 9, 11, 15, 21, 23, 29, 37, 67, 99):
            self.assertIs(is_other(2 ** often - 1, ("other", 3, (2, 1), ((2, often, TWO),))), False)

    def test_each_d_and_pair_of_small_numbers(self):
        for n in range(1, 22):
            rows = made_rows(n + 1, made_full)
            for d, x, y in itertools.product(range(-1, n + 2), repeat=3):
                good = n in (3, 5, 7, 11, 13, 17, 19) and 1 <= d < n and 0 <= x < n and 0 <= y < n
                good = good and (x * x - d * y * y) % n == 1 and steps_home((x, y), d, n) == n + 1
                self.assertIs(is_other(n, ("other", d, (x, y), rows)), good, (n, d, x, y))

    def test_d_that_shares_more_than_1_and_norms_that_are_not_1(self):
        for n in (9, 15, 21, 25, 35, 49):
            rows = made_rows(n + 1, made_full)
            for d in [d for d in range(n + 1) if math.gcd(d, n) > 1]:
                for x, y in itertools.product(range(n), repeat=2):
                    self.assertIs(is_other(n, ("other", d, (x, y), rows)), False)
        for n in (7, 13, 31):
            word, d, pair, rows = made_other(n)
            for x, y in itertools.product(range(n), repeat=2):
                if (x * x - d * y * y) % n != 1:
                    self.assertIs(is_other(n, ("other", d, (x, y), rows)), False)

    def test_any_papers_within(self):
        for n in primes_to(200)[1:]:
            for maker in (made_full, made_share, made_mixed, lambda p: TWO if p == 2 else made_other(p)):
                self.assertIs(is_other(n, made_other(n, maker)), True, n)
        # A full paper within must be full through and through.
        inner = ("full", 3, ((2, 1, TWO), (3, 1, OTHER_THREE)))
        self.assertIs(is_other(13, made_other(13)[:3] + (((2, 1, TWO), (7, 1, inner)),)), False)

    def test_papers_of_other_kinds_are_none(self):
        self.assertIs(is_other(2, TWO), False)
        self.assertIs(is_other(2, OTHER_THREE), False)
        self.assertIs(is_other(1, OTHER_THREE), False)
        for n in primes_to(150)[1:]:
            for paper in (full_paper(n), share_paper(n), made_full(n), made_share(n)):
                self.assertIs(is_paper(n, paper), True)
                self.assertIs(is_other(n, paper), False)
            for other in (1, 2, n - 2, n - 1, n + 1, n + 2, 2 * n, n * n):
                self.assertIs(is_other(other, made_other(n)), False)

    def test_one_thing_otherwise(self):
        for n in (3, 5, 7, 11, 23, 31):
            self.read_alike(n, made_other(n), is_other, OTHER)
            self.read_alike(n, other_paper(n), is_other, OTHER)
        self.read_alike(61, made_other(61, made_mixed), is_other, OTHER)
        self.read_alike(73, made_other(73, made_share), is_other, OTHER)

    def test_great_numbers(self):
        paper = made_other(GREATEST_PRIME)
        self.assertIs(is_other(GREATEST_PRIME, paper), True)
        for n in (MOST, MOST - 1, GREATEST_PRIME - 1, GREATEST_PRIME - 2, 1, 2, 3):
            self.assertIs(is_other(n, paper), False)
        for thing in itertools.islice(altered(paper), 0, None, 13):
            self.assertIs(is_other(GREATEST_PRIME, thing), reads(GREATEST_PRIME, thing, OTHER), thing)

    def test_truths_are_no_numbers(self):
        self.assertIs(is_other(3, ("other", 2, (False, 1), ((2, 2, TWO),))), False)
        self.assertIs(is_other(3, ("other", 2, (0, True), ((2, 2, TWO),))), False)
        self.assertIs(is_other(7, ("other", 3, (2, True), ((2, 3, TWO),))), False)
        five = made_other(5)
        self.assertIs(is_other(5, five[:3] + (((2, True, TWO), (3, 1, THREE)),)), False)
        self.assertIs(is_other(5, five[:3] + (((2, 1, TWO), (3, 1, ("full", 2, ((2, True, TWO),)))),)), False)

    def test_things_that_are_none(self):
        for n in (1, 2, 3, 4, 5, 7, 9, 11, 401, MOST - 1, MOST):
            for thing in no_papers():
                before = as_it_stands(thing)
                self.assertIs(is_other(n, thing), False)
                self.assertTrue(before == as_it_stands(thing))
            self.assertIs(is_other(n, nested("other", 5000)), False)

    def test_wrong_numbers(self):
        for thing in wrong_numbers(1, MOST):
            for paper in (OTHER_THREE, TWO, None, [], ("other", 2)):
                self.refused(NoNumber, "n", is_other, thing, paper)


class OtherPaper(Case):
    def test_of_all_numbers_to_some_thousand(self):
        primes = primes_to(5000)
        for n in range(1, 5001):
            paper = other_paper(n)
            if n in primes and n != 2:
                self.assertIs(reads(n, paper, OTHER), True, n)
                self.assertIs(is_other(n, paper), True, n)
                self.assertIs(is_paper(n, paper), True, n)
                self.assertIs(is_full(n, paper), False)
                self.assertIs(is_share(n, paper), False)
                self.assertEqual([row[:2] for row in paper[3]], plain_parts(n + 1))
            else:
                self.assertIsNone(paper, n)

    def test_great_primes_are_answered_quickly(self):
        # By 427733329 all numbers less than 79 are squares.
        for n in (*NEAR_THE_MOST, 427733329, 131486759, 536870909, 2 ** 19 - 1, 892371481, 47477431):
            paper = other_paper(n)
            self.assertIs(reads(n, paper, OTHER), True)
            self.assertIs(is_other(n, paper), True)
            self.assertEqual(paper, other_paper(n))

    def test_no_primes_and_2(self):
        for n in (2, *NO_PRIMES):
            self.assertIsNone(other_paper(n))

    def test_wrong_things(self):
        for thing in wrong_numbers(1, MOST_TRIED):
            self.refused(NoNumber, "n", other_paper, thing)


if __name__ == "__main__":
    unittest.main()
