import itertools
import math
import unittest

from primepapers.errors import NoNumber, NoPrime
from primepapers.signs import by_signs, least_unsquare, root_by, sign
from tests.helper import (
    GREAT_PRIMES, GREATEST_PRIME, MOST, MOST_TRIED, Case, plain_parts, primes_to, wrong_numbers, wrong_odds,
)

FAR = (-MOST, 1 - MOST, -7, -2, -1, 0, 1, 2, 3, 10, MOST - 1, MOST)
NEAR_THE_MOST = (999999937, 999999929, 999999893, 999999883, 999999797)
NEAR_A_MILLION = (999983, 999979, 999961, 999959, 999953, 786433)
NO_PRIMES = (1, 4, 6, 9, 15, 25, 561, 1729, 997 * 991, 10 ** 6)
ODD_PRIMES = primes_to(200)[1:]


def squares_of(prime):
    return {k * k % prime for k in range(prime)}


def sign_by_squares(number, prime):
    if number % prime == 0:
        return 0
    return 1 if number % prime in squares_of(prime) else -1


def sign_by_power(number, prime):
    """By a great prime the power (p - 1) through 2 is the rest of the sign."""
    rest = pow(number, (prime - 1) // 2, prime)
    return -1 if rest == prime - 1 else rest


class Sign(Case):
    def test_by_hand(self):
        for number, n, expected in (
            (2, 3, -1), (2, 7, 1), (3, 7, -1), (7, 7, 0), (0, 7, 0), (-1, 7, -1), (-1, 5, 1), (2, 15, 1), (2, 9, 1),
            (3, 9, 0), (5, 21, 1), (1001, 9907, -1), (19, 45, 1), (8, 21, -1), (5, 45, 0), (-1, 3, -1), (-1, 9, 1),
        ):
            with self.subTest(number=number, n=n):
                self.whole(expected, sign(number, n))

    def test_by_all_squares_of_small_primes(self):
        for prime in ODD_PRIMES:
            for number in range(-prime, 2 * prime + 1):
                self.whole(sign_by_squares(number, prime), sign(number, prime))

    def test_of_other_odd_numbers_prime_by_prime(self):
        tables = {p: [sign_by_squares(number, p) for number in range(p)] for p in primes_to(500)[1:]}
        for n in range(1, 500, 2):
            parts = plain_parts(n)
            for number in range(-20, n + 20):
                self.whole(math.prod([tables[p][number % p] ** e for p, e in parts]), sign(number, n))

    def test_by_1_it_is_1(self):
        for number in FAR:
            self.whole(1, sign(number, 1))

    def test_of_0(self):
        for n in (3, 5, 9, 15, 999999999, MOST - 1):
            self.whole(0, sign(0, n))

    def test_far_numbers(self):
        for number in FAR:
            for prime in (3, 5, 7, 11, 13, 101):
                self.whole(sign_by_squares(number % prime, prime), sign(number, prime))
                self.whole(sign_by_squares(number % prime, prime) ** 2, sign(number, prime ** 2))

    def test_great_numbers_are_answered_quickly(self):
        for number in (*FAR, *range(11, 60), *GREAT_PRIMES[2:]):
            for prime in (*NEAR_THE_MOST, *GREAT_PRIMES, 2 ** 89 - 1):
                self.whole(sign_by_power(number, prime), sign(number, prime))
            for one, other in itertools.combinations((*GREAT_PRIMES[4:], *NEAR_THE_MOST), 2):
                both = sign_by_power(number, one) * sign_by_power(number, other)
                self.whole(both, sign(number, one * other))

    def test_what_its_own_rules_tell(self):
        odds = (1, 3, 7, 9, 21, 105, 999999999, GREATEST_PRIME, MOST - 1, MOST - 3)
        for n in odds:
            self.whole(1 if n % 8 in (1, 7) else -1, sign(2, n))
            for one, other in itertools.product((-17, -1, 0, 2, 5, 6, 10 ** 15 - 1, 1 - 10 ** 14), repeat=2):
                self.whole(sign(one, n) * sign(other, n), sign(one * other, n))
                self.whole(sign(one % n, n), sign(one, n))
        for one, other in itertools.product(odds[1:], repeat=2):
            turned = -1 if one % 4 == 3 and other % 4 == 3 else 1
            self.whole(turned * sign(other, one), sign(one, other))

    def test_wrong_things_in_each_place(self):
        for thing in wrong_numbers(-MOST, MOST):
            self.refused(NoNumber, "number", sign, thing, 7)
        for thing in wrong_odds(1, MOST):
            self.refused(NoNumber, "n", sign, 3, thing)
        for n in (0, -1, -3, 2, 4, MOST, MOST + 1):
            self.refused(NoNumber, "n", sign, 3, n)

    def test_the_leftmost_wrong_thing_is_refused(self):
        wrong = (MOST + 1, -MOST - 1, True, None, "3", [])
        for number, n in itertools.product(wrong, (0, 2, -7, False, None, "7", ())):
            self.refused(NoNumber, "number", sign, number, n)


class BySigns(Case):
    def test_by_hand(self):
        self.assertIs(by_signs(561, 2), True)
        self.assertIs(by_signs(341, 2), False)
        self.assertIs(by_signs(2047, 2), True)
        self.assertIs(by_signs(9, 8), True)
        self.assertIs(by_signs(9, 3), False)
        self.assertIs(by_signs(15, 4), False)
        self.assertIs(by_signs(1105, 2), True)
        self.assertIs(by_signs(645, 2), False)

    def test_power_by_power(self):
        for n in range(3, 300, 2):
            parts = plain_parts(n)
            tables = {p: [sign_by_squares(number, p) for number in range(p)] for p, e in parts}
            for base in range(1, n):
                power = 1
                for _ in range((n - 1) // 2):
                    power = power * base % n
                found = math.prod([tables[p][base % p] ** e for p, e in parts])
                self.assertIs(by_signs(n, base), found != 0 and power == found % n, (n, base))

    def test_primes_are_let_by(self):
        for n in (3, *ODD_PRIMES, *NEAR_THE_MOST, *GREAT_PRIMES, 2 ** 89 - 1):
            for base in {1, 2, 3 % n or 1, n // 2, n - 2, n - 1}:
                self.assertIs(by_signs(n, base), True)

    def test_great_numbers_that_are_no_primes(self):
        for n in (MOST - 1, MOST - 3, 3 ** 60, 612733069004029 ** 2, 31607 ** 2, 999999999):
            for base in (1, n - 1):
                self.assertIs(by_signs(n, base), base == 1 or pow(-1, (n - 1) // 2) == sign(-1, n))
            for base in (2, 3, 5, 7, n - 2, n // 2):
                self.assertIs(by_signs(n, base), False)

    def test_wrong_things_in_each_place(self):
        for thing in wrong_odds(3, MOST):
            self.refused(NoNumber, "n", by_signs, thing, 2)
        for n in (3, 9, 561, MOST - 1):
            for thing in wrong_numbers(1, n - 1):
                self.refused(NoNumber, "base", by_signs, n, thing)
        for n, base in itertools.product((1, 2, 4, MOST + 1, True, None, "3", [3]), (0, -1, True, None, "2", [])):
            self.refused(NoNumber, "n", by_signs, n, base)


class LeastUnsquare(Case):
    def test_by_hand(self):
        for prime, expected in ((3, 2), (5, 2), (7, 3), (23, 5), (71, 7), (311, 11), (479, 13), (1559, 17), (5711, 19)):
            self.whole(expected, least_unsquare(prime))

    def test_one_by_one(self):
        for prime in primes_to(2500)[1:]:
            squares = squares_of(prime)
            self.whole(next(k for k in range(1, prime) if k not in squares), least_unsquare(prime))

    def test_great_primes_are_answered_quickly(self):
        # Primes to which all lesser numbers are squares, each the first of its kind.
        for prime, expected in ((422231, 37), (3818929, 47), (48473881, 67), (131486759, 83), (427733329, 79)):
            self.whole(expected, least_unsquare(prime))
        for prime in (*NEAR_A_MILLION, *NEAR_THE_MOST):
            least = next(k for k in range(1, prime) if sign_by_power(k, prime) == -1)
            self.whole(least, least_unsquare(prime))

    def test_wrong_things(self):
        for thing in wrong_numbers(1, MOST_TRIED):
            self.refused(NoNumber, "p", least_unsquare, thing)
        for p in (2, *NO_PRIMES, 31607 ** 2, 31601 * 31607, MOST_TRIED - 1, MOST_TRIED):
            self.refused(NoPrime, "p", least_unsquare, p)
        for p in (0, -1, -3, MOST_TRIED + 1, MOST_TRIED + 7, GREATEST_PRIME):
            self.refused(NoNumber, "p", least_unsquare, p)


class RootBy(Case):
    def root(self, number, p, expected):
        answer = root_by(number, p)
        if expected is None:
            self.assertIsNone(answer, (number, p))
        else:
            self.whole(expected, answer)

    def test_by_hand(self):
        for number, p, expected in (
            (0, 2, 0), (1, 2, 1), (5, 2, 1), (-4, 2, 0), (-3, 2, 1), (0, 3, 0), (1, 3, 1), (2, 3, None), (-2, 3, 1),
            (2, 7, 3), (4, 7, 2), (3, 7, None), (-1, 5, 2), (-1, 7, None), (10, 13, 6), (5, 41, 13), (14, 7, 0),
        ):
            self.root(number, p, expected)

    def test_by_all_squares(self):
        for p in primes_to(260):
            least = {}
            for k in range(p):
                least.setdefault(k * k % p, k)
            for number in range(-p, 2 * p + 1):
                self.root(number, p, least.get(number % p))

    def test_far_numbers(self):
        for p in (2, 3, 5, 7, 11, 97, 257, 65537):
            least = {}
            for k in range(p):
                least.setdefault(k * k % p, k)
            for number in FAR:
                self.root(number, p, least.get(number % p))

    def test_primes_near_the_most_are_answered_quickly(self):
        for p in NEAR_A_MILLION:
            for k in (*range(200), p // 2 - 1, p // 2):
                self.root(k * k, p, k)
                self.root(k * k - p * 10 ** 20, p, k)
                self.root((p - k) * (p - k), p, k)
            for number in range(1, 300):
                root = root_by(number, p)
                self.assertEqual(root is None, sign_by_power(number, p) == -1)
                if root is not None:
                    self.assertTrue(0 <= root <= p // 2 and (root * root - number) % p == 0)

    def test_wrong_things_in_each_place(self):
        for thing in wrong_numbers(-MOST, MOST):
            self.refused(NoNumber, "number", root_by, thing, 7)
        for thing in wrong_numbers(1, 10 ** 6):
            self.refused(NoNumber, "p", root_by, 2, thing)
        for p in (0, -2, 10 ** 6 + 1, 1000003, 999999937, MOST):
            self.refused(NoNumber, "p", root_by, 2, p)
        for p in NO_PRIMES:
            for number in (0, 1, 2, -1, MOST):
                self.refused(NoPrime, "p", root_by, number, p)

    def test_the_leftmost_wrong_thing_is_refused(self):
        for number, p in itertools.product((MOST + 1, True, None, "4", [4]), (0, 1, 4, 10 ** 6, 1000003, None, "7")):
            self.refused(NoNumber, "number", root_by, number, p)


if __name__ == "__main__":
    unittest.main()
