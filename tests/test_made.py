import itertools
import math
import unittest

from primepapers.errors import NoNumber, NoPaper
from primepapers.full import full_paper, is_full
from primepapers.least import tuples_of
from primepapers.made import made, prime_of
from primepapers.other import other_paper
from primepapers.papers import is_paper
from primepapers.share import is_share, share_paper
from tests.helper import (
    GREATEST_PRIME, MOST, NO_WHOLE, Case, as_it_stands, made_full, made_mixed, made_other, made_share, nested,
    no_papers, plain_halves, primes_to, reads, share_of, wrong_numbers,
)

TWO = ("two",)
THREE = ("full", 2, ((2, 1, TWO),))
MOST_OF = 10 ** 15
BASES = (2, 3, 5, 7, 11, 13, 17, 19, 23, 29, 31, 37, 41)


def surely_prime(n):
    """Of numbers to 10 ** 30 these looks let none by that was ever met; below 10 ** 24 none at all."""
    for base in BASES:
        if n % base == 0:
            return n == base
        if not plain_halves(n, base):
            return False
    return n > 1


def least_going(n, q, k):
    """The least base from 2 on that goes."""
    return next(
        base for base in range(2, n)
        if pow(base, n - 1, n) == 1 and math.gcd(pow(base, 2 * k, n) - 1, n) == 1
    )


def prime_near(most):
    """The greatest prime that is twice some number times a certain prime, and 1, up to most; and a paper of it."""
    inner = 99999989
    k = (most - 1) // (2 * inner)
    while not surely_prime(2 * k * inner + 1):
        k -= 1
    q = 2 * k * inner + 1
    return q, share_of(q, ((inner, 1, made_full(inner)),))


def fooling(least):
    """Such (q, k), k at least so great, that q is a prime and 2 k q + 1, no prime, fools all."""
    m = least
    while not all(map(surely_prime, (6 * m + 1, 12 * m + 1, 18 * m + 1, 36 * m * m + 11 * m + 1))):
        m += 1
    q, k = 36 * m * m + 11 * m + 1, 18 * m
    assert 2 * k * q + 1 == (6 * m + 1) * (12 * m + 1) * (18 * m + 1)
    return q, k


class Made(Case):
    def made_as_told(self, q, paper, k):
        before = as_it_stands(paper)
        n = 2 * k * q + 1
        answer = made(q, paper, k)
        if surely_prime(n):
            self.assertEqual(answer, ("share", least_going(n, q, k), ((q, 1, paper),)), (q, k))
            self.assertIs(is_share(n, answer), True)
            self.assertIs(is_paper(n, answer), True)
        else:
            self.assertIsNone(answer, (q, k))
        self.assertTrue(before == as_it_stands(paper))

    def test_by_hand(self):
        self.assertEqual(made(3, THREE, 1), ("share", 2, ((3, 1, THREE),)))
        five = full_paper(5)
        # 2 times 2 is 4, and less 1 it is 3: it shares just 1 with 11; of 21 there is none.
        self.assertEqual(made(5, five, 1), ("share", 2, ((5, 1, five),)))
        self.assertIsNone(made(5, five, 2))
        # By 43 the power 6 of 2 has the rest 21.
        self.assertEqual(made(7, full_paper(7), 3), ("share", 2, ((7, 1, full_paper(7)),)))
        # By 683 the power 11 of 2 is 2048 and has the rest of -1, so the power 22 has the rest 1.
        self.assertEqual(made(31, full_paper(31), 11), ("share", 3, ((31, 1, full_paper(31)),)))

    def test_all_that_go_of_small_primes(self):
        for q in primes_to(140)[1:]:
            for k in range(1, (q + 1) // 2):
                self.made_as_told(q, made_full(q), k)

    def test_the_base_is_the_least_and_not_always_2(self):
        bases = set()
        for q in primes_to(400)[1:]:
            for k in range(1, (q + 1) // 2):
                answer = made(q, full_paper(q), k)
                if answer is not None:
                    bases.add(answer[1])
                    self.assertEqual(answer[1], least_going(2 * k * q + 1, q, k))
        self.assertEqual(bases, {2, 3})

    def test_by_plain_trial(self):
        primes = set(primes_to(10000))
        for q in primes_to(97)[1:]:
            for k in range(1, (q + 1) // 2):
                self.assertEqual(made(q, full_paper(q), k) is not None, 2 * k * q + 1 in primes)

    def test_papers_of_all_kinds(self):
        for q in (3, 5, 7, 23, 83, 107, 227):
            for paper in (full_paper(q), share_paper(q), other_paper(q), made_share(q), made_other(q), made_mixed(q)):
                for k in range(1, (q + 1) // 2):
                    self.made_as_told(q, paper, k)

    def test_the_edges_of_k(self):
        for q in (*primes_to(200)[1:], 99999989, 999999937):
            paper = full_paper(q)
            for k in (1, (q - 1) // 2):
                self.made_as_told(q, paper, k)
            for k in (0, -1, (q + 1) // 2, q // 2 + 1, q, MOST):
                self.refused(NoNumber, "k", made, q, paper, k)

    def test_of_2_none_is_made(self):
        for k in (0, 1, 2, -1, None, True):
            self.refused(NoNumber, "k", made, 2, TWO, k)

    def test_great_primes_are_answered_quickly(self):
        q, paper = prime_near(MOST_OF)
        self.assertGreater(q, MOST_OF - 10 ** 12)
        self.assertIs(reads(q, paper), True)
        for k in (*range(1, 60), 10 ** 14, *range((q - 1) // 2 - 60, (q + 1) // 2)):
            self.made_as_told(q, paper, k)
        for k in (0, (q + 1) // 2, q // 2 + 1):
            self.refused(NoNumber, "k", made, q, paper, k)

    def test_numbers_that_fool_all_are_answered_quickly(self):
        # 63973 is 7, 13, 19 and 37; each base that shares just 1 with it lets it by, by powers.
        self.assertIsNone(made(1777, full_paper(1777), 18))
        # Of these 2 and 3 let by, by powers, and come home too early.
        for q, k in (
            (2477, 309), (2837, 354), (2969, 1134), (4441, 1980), (5437, 2520), (6361, 1344), (6947, 780), (7867, 1232),
        ):
            self.assertTrue(pow(2, 2 * k, 2 * k * q + 1) == pow(3, 2 * k, 2 * k * q + 1) == 1)
            self.assertIsNone(made(q, full_paper(q), k))
        for least in (100, 1000, 10 ** 5, 10 ** 6, 5 * 10 ** 6):
            q, k = fooling(least)
            self.assertLess(q, MOST_OF)
            self.assertIsNone(made(q, made_full(q), k))

    def test_one_of_another(self):
        q, paper, many = 3, THREE, 2
        while q <= MOST_OF:
            k = next(k for k in range(1, (q + 1) // 2) if made(q, paper, k) is not None)
            inner = paper
            paper = made(q, paper, k)
            q = 2 * k * q + 1
            many += 1
            self.assertEqual(paper[2][0][2], inner)
            self.assertIs(reads(q, paper, ("share",)), True)
            self.assertEqual(tuples_of(q, paper), many)
        self.assertGreater(many, 10)
        self.refused(NoNumber, "q", made, q, paper, 1)

    def test_wrong_things_in_each_place(self):
        for thing in wrong_numbers(1, MOST_OF):
            self.refused(NoNumber, "q", made, thing, THREE, 1)
        self.refused(NoNumber, "q", made, GREATEST_PRIME, made_full(GREATEST_PRIME), 1)
        for thing in no_papers():
            for q in (1, 2, 3, 4, 7, 11, MOST_OF):
                self.refused(NoPaper, "paper", made, q, thing, 1)
        self.refused_so(NoPaper, made, 3, nested("two", 5000), 1)
        for thing in (1, 2, 4, 5, 7, 9, 15, MOST_OF):
            self.refused(NoPaper, "paper", made, thing, THREE, 1)
        for thing in (list(THREE), ("full", 2, ((2, True, TWO),)), ("full", 1, THREE[2]), TWO, "full 2 [2^1 two]"):
            self.refused(NoPaper, "paper", made, 3, thing, 1)
        for thing in wrong_numbers(1, 1):
            self.refused(NoNumber, "k", made, 3, THREE, thing)
        for thing in wrong_numbers(1, 5):
            self.refused(NoNumber, "k", made, 11, full_paper(11), thing)

    def test_the_leftmost_wrong_thing_is_refused(self):
        for q in (0, MOST_OF + 1, True, None, "3", [3], GREATEST_PRIME):
            for paper, k in itertools.product((TWO, None, [], ("two", 1)), (0, 1, None, True, MOST)):
                self.refused(NoNumber, "q", made, q, paper, k)
        for q in (1, 3, 4, MOST_OF):
            for paper, k in itertools.product((TWO, None, [], "two", 3), (0, 1, 2, -1, None, True, "1", MOST)):
                self.refused(NoPaper, "paper", made, q, paper, k)


class PrimeOf(Case):
    def test_of_each_count_of_figures(self):
        for figures in range(1, 31):
            answer = prime_of(figures)
            self.assertIs(type(answer), tuple)
            prime, paper = answer
            self.assertIs(type(prime), int)
            self.assertEqual(len(str(prime)), figures)
            self.assertTrue(surely_prime(prime))
            self.assertIs(reads(prime, paper), True, figures)
            self.assertIs(is_paper(prime, paper), True, figures)
            self.assertEqual(answer, prime_of(figures))

    def test_the_least_ones_by_trial(self):
        primes = primes_to(10 ** 4)
        for figures in range(1, 5):
            prime, paper = prime_of(figures)
            self.assertIn(prime, primes)
            self.assertTrue(10 ** (figures - 1) <= prime < 10 ** figures)
        self.assertIs(is_full(prime_of(1)[0], full_paper(prime_of(1)[0])), True)

    def test_wrong_things(self):
        for thing in wrong_numbers(1, 30):
            self.refused(NoNumber, "figures", prime_of, thing)
        for thing in (*NO_WHOLE, 0, -1, 31, 32, 100):
            self.refused(NoNumber, "figures", prime_of, thing)


if __name__ == "__main__":
    unittest.main()
