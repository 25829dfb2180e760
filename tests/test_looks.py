import itertools
import math
import unittest

from primepapers.errors import NoNumber
from primepapers.looks import by_halves, by_powers, many_by_halves, many_by_powers, share_by_halves
from primepapers.signs import by_signs
from tests.helper import (
    GREAT_PRIMES, GREATEST_PRIME, MOST, MOST_TRIED, Case, places_of_halves, plain_halves, plain_parts, primes_to,
    wrong_numbers, wrong_odds,
)

NEAR_THE_MOST = (999999937, 999999929, 999999893, 999999883, 999999797)
MERSENNE = 2 ** 89 - 1
# Each is fooled, by powers, by all bases that share just 1 with it.
FOOLS = (561, 1105, 1729, 2465, 2821, 6601, 294409, 56052361, 118901521)


def great_fool(least):
    """A product of three great primes that fools all, the greatest ones at least so great."""
    k = least
    while not all(pow(base, 18 * k, 18 * k + 1) == 1 for base in (2, 3, 5, 7)) or not all(
        pow(base, often * k, often * k + 1) == 1 for often in (6, 12) for base in (2, 3, 5, 7)
    ):
        k += 1
    return (6 * k + 1) * (12 * k + 1) * (18 * k + 1)


def all_powers(n, base):
    """The rests by n of the powers 0, 1, 2 .. n - 1 of the base."""
    powers = [1]
    for _ in range(n - 1):
        powers.append(powers[-1] * base % n)
    return powers


def counted_by_parts(n):
    """How many bases let n by, by halves; the rests by each prime's power are gone through, each place by itself."""
    places = places_of_halves(n)
    powers = [prime ** often for prime, often in plain_parts(n)]
    many = math.prod([sum(pow(rest, places[0], m) == 1 for rest in range(m)) for m in powers])
    for place in places:
        many += math.prod([sum(pow(rest, place, m) == m - 1 for rest in range(m)) for m in powers])
    return many


class Looks(Case):
    def test_by_hand(self):
        self.assertIs(by_powers(341, 2), True)
        self.assertIs(by_halves(341, 2), False)
        self.assertIs(by_powers(341, 3), False)
        self.assertIs(by_powers(2047, 2), True)
        self.assertIs(by_halves(2047, 2), True)
        self.assertIs(by_powers(561, 2), True)
        self.assertIs(by_powers(561, 3), False)
        self.assertIs(by_halves(561, 2), False)
        self.assertIs(by_halves(561, 50), True)
        self.assertIs(by_powers(9, 2), False)
        self.assertIs(by_halves(9, 8), True)
        self.assertIs(by_halves(25, 7), True)
        self.assertIs(by_powers(15, 4), True)
        self.assertIs(by_halves(15, 4), False)

    def test_power_by_power(self):
        for n in range(3, 260, 2):
            places = places_of_halves(n)
            self.assertEqual(places[0] % 2, 1)
            for base in range(1, n):
                powers = all_powers(n, base)
                self.assertIs(by_powers(n, base), powers[n - 1] == 1, (n, base))
                halves = powers[places[0]] == 1 or n - 1 in [powers[place] for place in places]
                self.assertIs(by_halves(n, base), halves, (n, base))

    def test_what_is_let_by_by_halves_is_by_signs_and_that_is_by_powers(self):
        for n in range(3, 700, 2):
            for base in range(1, n, 1 if n < 300 else 7):
                looks = (by_halves(n, base), by_signs(n, base), by_powers(n, base))
                self.assertIn(looks, ((True,) * 3, (False, True, True), (False, False, True), (False,) * 3))

    def test_primes_are_let_by_by_all(self):
        for n in primes_to(400)[1:]:
            for base in range(1, n):
                self.assertIs(by_powers(n, base), True)
                self.assertIs(by_halves(n, base), True)
        for n in (*NEAR_THE_MOST, *GREAT_PRIMES, MERSENNE):
            for base in (1, 2, 3, 5, 7, 10, n // 2, n // 3, n - 2, n - 1):
                self.assertIs(by_powers(n, base), True)
                self.assertIs(by_halves(n, base), True)

    def test_the_first_and_the_last_base_let_all_by(self):
        for n in (3, 5, 9, 15, 341, 999999999, MOST - 1, MOST - 3, MOST - 9, 3 ** 60, 31607 ** 2):
            for base in (1, n - 1):
                self.assertIs(by_powers(n, base), True)
                self.assertIs(by_halves(n, base), True)

    def test_great_numbers_that_are_no_primes(self):
        for n in (MOST - 1, MOST - 3, 3 ** 60, GREAT_PRIMES[3] * 14618118833, 612733069004029 ** 2):
            for base in (2, 3, 5, 7, n - 2, n // 2):
                self.assertIs(by_powers(n, base), pow(base, n - 1, n) == 1)
                self.assertIs(by_halves(n, base), plain_halves(n, base))
                self.assertIs(by_halves(n, base), False)

    def test_great_numbers_that_fool_all(self):
        for least in (10 ** 5, 10 ** 8, 9 * 10 ** 8):
            n = great_fool(least)
            self.assertLess(n, MOST)
            halves = [by_halves(n, base) for base in range(2, 60)]
            self.assertEqual(halves, [plain_halves(n, base) for base in range(2, 60)])
            self.assertIn(False, halves)
            for base in range(2, 60):
                self.assertIs(by_powers(n, base), True)

    def test_wrong_things_in_each_place(self):
        for look in (by_powers, by_halves):
            for thing in wrong_odds(3, MOST):
                self.refused(NoNumber, "n", look, thing, 2)
            for n in (3, 9, 341, 561, MOST - 1):
                for thing in wrong_numbers(1, n - 1):
                    self.refused(NoNumber, "base", look, n, thing)
            for n in (1, 0, -1, -3, -5, 2, 4, MOST, MOST + 1):
                self.refused(NoNumber, "n", look, n, 1)

    def test_the_leftmost_wrong_thing_is_refused(self):
        for look in (by_powers, by_halves):
            for n, base in itertools.product((1, 2, 4, MOST + 1, True, None, "3", [3]), (0, -1, True, None, "2", [])):
                self.refused(NoNumber, "n", look, n, base)


class Counts(Case):
    def counted(self, n, powers, halves):
        self.whole(powers, many_by_powers(n))
        self.whole(halves, many_by_halves(n))
        share = share_by_halves(n)
        self.assertIs(type(share), tuple)
        self.assertEqual([type(part) for part in share], [int, int])
        both = math.gcd(halves, n - 1)
        self.assertEqual(share, (halves // both, (n - 1) // both))

    def test_by_hand(self):
        # By powers these are of 9 1 and 8, of 15 1, 4, 11 and 14, of 21 1, 8, 13 and 20.
        self.counted(3, 2, 2)
        self.counted(9, 2, 2)
        self.counted(15, 4, 2)
        self.counted(21, 4, 2)
        self.counted(25, 4, 4)
        self.counted(91, 36, 18)
        self.counted(561, 320, 10)
        self.assertEqual(share_by_halves(3), (1, 1))
        self.assertEqual(share_by_halves(9), (1, 4))
        self.assertEqual(share_by_halves(15), (1, 7))
        self.assertEqual(share_by_halves(25), (1, 6))
        self.assertEqual(share_by_halves(91), (1, 5))
        self.assertEqual(share_by_halves(561), (1, 56))

    def test_against_plain_counting(self):
        for n in (*range(3, 600, 2), *FOOLS[:6], 1681, 2047, 3277, 3375, 6561, 11025):
            powers = sum(pow(base, n - 1, n) == 1 for base in range(1, n))
            self.counted(n, powers, sum(plain_halves(n, base) for base in range(1, n)))

    def test_they_are_those_that_the_looks_let_by(self):
        for n in range(3, 200, 2):
            self.assertEqual(many_by_powers(n), [by_powers(n, base) for base in range(1, n)].count(True))
            self.assertEqual(many_by_halves(n), [by_halves(n, base) for base in range(1, n)].count(True))

    def test_products_of_great_primes(self):
        for primes in (
            (31601, 31607), (15361, 61441), (7681, 12289), (997, 991, 983), (37, 73, 109), (211, 421, 631),
            (3, 5, 7, 11, 13, 17, 19, 23), (257, 641), (271, 541, 811),
        ):
            n = math.prod(primes)
            self.assertLessEqual(n, MOST_TRIED)
            powers = math.prod([
                sum(pow(rest, n - 1, m) == 1 for rest in range(m)) for m in [p ** e for p, e in plain_parts(n)]
            ])
            self.counted(n, powers, counted_by_parts(n))

    def test_squares_and_cubes_of_primes(self):
        # By a prime's square just the rests of the order p - 1 and what goes into it come home.
        for prime in (3, 5, 7, 13, 193, 9973, 31607):
            self.counted(prime ** 2, prime - 1, prime - 1)
        for prime in (3, 7, 97, 997):
            self.counted(prime ** 3, prime - 1, prime - 1)
        self.counted(3 ** 18, 2, 2)
        self.counted(9 * 25 * 49, 2 * 4 * 2, counted_by_parts(11025))
        self.counted(999999999, 2 * 2 * 2, counted_by_parts(999999999))

    def test_primes_near_the_most(self):
        for n in (*primes_to(300)[1:], *NEAR_THE_MOST):
            self.counted(n, n - 1, n - 1)
            self.assertEqual(share_by_halves(n), (1, 1))

    def test_numbers_that_fool_all(self):
        for n in FOOLS:
            rests = math.prod([prime - 1 for prime, often in plain_parts(n)])
            self.whole(rests, many_by_powers(n))
            self.counted(n, rests, counted_by_parts(n))

    def test_at_most_a_quarter_of_what_is_no_prime(self):
        primes = primes_to(5000)
        for n in range(9, 5000, 2):
            top, bottom = share_by_halves(n)
            self.assertEqual(4 * top <= bottom, n not in primes, n)
        # Products of p and 2 p - 1, p with the rest 3 by 4, come nearest.
        for n in (91, 703, 1891, 12403, 38503, 79003):
            top, bottom = share_by_halves(n)
            self.assertTrue(4 * top <= bottom < 6 * top, n)

    def test_wrong_things(self):
        for deed in (many_by_powers, many_by_halves, share_by_halves):
            for thing in wrong_odds(3, MOST_TRIED):
                self.refused(NoNumber, "n", deed, thing)
            for n in (1, 2, 4, 0, -1, -3, -9, MOST_TRIED, MOST_TRIED + 1, MOST - 1, GREATEST_PRIME):
                self.refused(NoNumber, "n", deed, n)


if __name__ == "__main__":
    unittest.main()
