import itertools
import math
import unittest

from primepapers.errors import NoBases, NoNumber
from primepapers.fools import all_fools, fooled, fools_all
from tests.helper import (
    MOST, MOST_TRIED, NO_WHOLE, Case, plain_halves, plain_parts, primes_to, wrong_numbers, wrong_odds,
)

FOOLS = [
    561, 1105, 1729, 2465, 2821, 6601, 8911, 10585, 15841, 29341, 41041, 46657, 52633, 62745, 63973, 75361,
]
PRIMES = set(primes_to(20000))


def let_by(n, base):
    """By halves, of the rest of the base; a rest 0 lets none by."""
    return base % n != 0 and plain_halves(n, base % n)


def tried(most, bases):
    odds = [n for n in range(3, most + 1, 2) if n not in PRIMES]
    return [n for n in odds if all(let_by(n, base) for base in bases)]


def no_bases():
    """Things of every kind that are no bases."""
    things = [thing for thing in NO_WHOLE if thing != (2,)] + [2, [2], [2, 3], "23", {2: 3}, {2, 3}, range(2, 4), None]
    things += [(), (2, 3, 4, 5, 6, 7, 8), tuple(range(2, 51)), (3, 2), (2, 2), (2, 3, 3), (2, 5, 4, 6), (50, 2)]
    things += [(1,), (51,), (0,), (-2,), (1, 2), (2, 51), (0, 2), (2, 3, 5, 7, 11, 51), ((2,),), ((2, 3), 4), ([2],)]
    for wrong in wrong_numbers(2, 50):
        things += [(wrong,), (2, wrong), (wrong, 50), (2, wrong, 50)]
    return things


class Fooled(Case):
    def listed(self, most, bases, expected):
        answer = fooled(most, bases)
        self.assertIs(type(answer), list)
        self.assertTrue(all(type(n) is int for n in answer))
        self.assertEqual(answer, expected)

    def test_by_hand(self):
        self.listed(20000, (2,), [2047, 3277, 4033, 4681, 8321, 15841])
        self.listed(2046, (2,), [])
        self.listed(2047, (2,), [2047])
        self.listed(2048, (2,), [2047])
        self.listed(3276, (2,), [2047])
        self.listed(20000, (2, 3), [])
        self.listed(20000, (3,), [121, 703, 1891, 3281, 8401, 8911, 10585, 12403, 16531, 18721, 19345])
        self.listed(49, (7,), [25])
        self.listed(24, (7,), [])

    def test_most_3(self):
        for bases in ((2,), (3,), (4,), (50,), (2, 3, 5, 7, 11, 13)):
            self.listed(3, bases, [])
            self.listed(4, bases, [])

    def test_against_plain_trial(self):
        for base in range(2, 51):
            self.listed(2500, (base,), tried(2500, (base,)))
        for bases in itertools.combinations((2, 3, 7, 8, 14, 18, 49, 50), 2):
            self.listed(2000, bases, tried(2000, bases))
        for bases in ((4, 9, 16, 25, 36, 49), (2, 4, 8, 16, 32), (8, 18, 38), (45, 46, 47, 48, 49, 50), (2, 50)):
            self.listed(3000, bases, tried(3000, bases))

    def test_each_most(self):
        for most in range(3, 60):
            for bases in ((7,), (8,), (10,), (18,), (26,), (37,), (50,), (8, 10)):
                self.listed(most, bases, tried(most, bases))

    def test_the_rest_of_a_base(self):
        # By 9 the rests of 10, 8 and 17 are 1 or 8, those of 9, 18, 27, 36, 45 are 0.
        for base in (8, 10, 17, 19, 26, 28, 35, 37, 44, 46):
            self.assertEqual(fooled(9, (base,)), [9])
        for base in (9, 18, 27, 36, 45, 3, 6, 12, 2, 4, 5, 7):
            self.assertEqual(fooled(9, (base,)), [])
        for base in (15, 30, 45):
            self.assertNotIn(15, fooled(100, (base,)))
        self.assertIn(15, fooled(100, (16,)))
        self.assertIn(49, fooled(100, (50,)))
        self.assertNotIn(25, fooled(100, (50,)))
        self.assertEqual(fooled(9, (8, 10)), [9])
        self.assertEqual(fooled(9, (8, 9, 10)), [])
        self.assertEqual(fooled(9, (9, 10)), [])

    def test_the_most_is_answered_quickly(self):
        for bases in ((2,), (50,), (49,), (2, 3, 5, 7, 11, 13), (4, 9, 16, 25, 36, 49), (45, 46, 47, 48, 49, 50)):
            self.listed(20000, bases, tried(20000, bases))
            self.listed(19999, bases, tried(19999, bases))

    def test_the_list_is_the_askers_own(self):
        first = fooled(5000, (2,))
        second = fooled(5000, (2,))
        self.assertIsNot(first, second)
        first.clear()
        first.append("other")
        self.assertEqual(second, [2047, 3277, 4033, 4681])
        self.listed(5000, (2,), [2047, 3277, 4033, 4681])

    def test_wrong_things_in_each_place(self):
        for thing in wrong_numbers(3, 20000):
            self.refused(NoNumber, "most", fooled, thing, (2,))
        for thing in no_bases():
            self.refused(NoBases, "bases", fooled, 3, thing)
            self.refused(NoBases, "bases", fooled, 20000, thing)

    def test_most_is_looked_at_ahead_of_the_bases(self):
        for most in (2, 20001, True, None, "3", [3], (3,), {}):
            for bases in ([2], (), (1,), (2, 2), (True,), None, 2, "2", {}):
                self.refused(NoNumber, "most", fooled, most, bases)


class FoolsAll(Case):
    def test_by_hand(self):
        self.assertIs(fools_all(561), True)
        for n in (3, 5, 7, 9, 15, 25, 27, 91, 341, 559, 563, 2047, 3 * 561, 31607 ** 2, 999999999):
            self.assertIs(fools_all(n), False)

    def test_against_plain_trial(self):
        for n in range(3, 3001, 2):
            bases = [base for base in range(1, n) if math.gcd(base, n) == 1]
            expected = n not in PRIMES and all(pow(base, n - 1, n) == 1 for base in bases)
            self.assertIs(fools_all(n), expected, n)

    def test_great_numbers_are_answered_quickly(self):
        # Products of three primes 6 k + 1, 12 k + 1, 18 k + 1, and such of more primes.
        for n in (294409, 56052361, 118901521, 172947529, 825265, 321197185):
            self.assertTrue(all(often == 1 and (n - 1) % (prime - 1) == 0 for prime, often in plain_parts(n)))
            self.assertIs(fools_all(n), True)
            for other in (n - 2, n + 2, 3 * n):
                self.assertIs(fools_all(other), False)
        for n in (999999937, 999999929, 31601 * 31607, 31607 ** 2, 997 * 991 * 983, 3 ** 18, 5 ** 12, MOST_TRIED - 1):
            self.assertIs(fools_all(n), False)

    def test_wrong_things(self):
        for thing in wrong_odds(3, MOST_TRIED):
            self.refused(NoNumber, "n", fools_all, thing)
        for n in (1, 2, 560, -561, MOST_TRIED, MOST_TRIED + 1, MOST - 1):
            self.refused(NoNumber, "n", fools_all, n)


class AllFools(Case):
    def listed(self, most, expected):
        answer = all_fools(most)
        self.assertIs(type(answer), list)
        self.assertTrue(all(type(n) is int for n in answer))
        self.assertEqual(answer, expected)

    def test_the_most_is_answered_quickly(self):
        self.listed(10 ** 5, FOOLS)
        self.listed(10 ** 5 - 1, FOOLS)

    def test_each_edge(self):
        for most in (1, 2, 3, 4, 5, 100, 559, 560):
            self.listed(most, [])
        for at, fool in enumerate(FOOLS):
            self.listed(fool - 1, FOOLS[:at])
            self.listed(fool, FOOLS[:at + 1])

    def test_they_are_those_that_fool_all(self):
        self.listed(12000, [n for n in range(3, 12001, 2) if fools_all(n)])

    def test_the_list_is_the_askers_own(self):
        first = all_fools(2000)
        second = all_fools(2000)
        self.assertIsNot(first, second)
        first.clear()
        first.append("other")
        self.assertEqual(second, [561, 1105, 1729])
        self.listed(2000, [561, 1105, 1729])

    def test_wrong_things(self):
        for thing in wrong_numbers(1, 10 ** 5):
            self.refused(NoNumber, "most", all_fools, thing)
        for most in (0, -1, 10 ** 5 + 1, MOST_TRIED, MOST):
            self.refused(NoNumber, "most", all_fools, most)


if __name__ == "__main__":
    unittest.main()
