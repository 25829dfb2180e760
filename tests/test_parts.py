import unittest

from primepapers.errors import NoNumber
from primepapers.parts import is_prime, parts_of
from tests.helper import MOST_TRIED, Case, wrong_numbers

GREAT_PRIMES = (999999937, 999999929, 999999893, 999999883)
NEAR_ROOT = (31583, 31601, 31607)


def plainly_prime(number):
    return [k for k in range(1, number + 1) if number % k == 0] == [1, number]


class IsPrime(Case):
    def test_0_1_2(self):
        self.assertIs(is_prime(0), False)
        self.assertIs(is_prime(1), False)
        self.assertIs(is_prime(2), True)

    def test_as_tried(self):
        for number in range(3001):
            self.assertIs(is_prime(number), plainly_prime(number), number)

    def test_great_primes_are_answered_quickly(self):
        for number in GREAT_PRIMES * 5:
            self.assertIs(is_prime(number), True, number)

    def test_great_numbers_that_are_none(self):
        self.assertIs(is_prime(MOST_TRIED), False)
        self.assertIs(is_prime(MOST_TRIED - 1), False)
        for number in range(999999938, MOST_TRIED):
            self.assertIs(is_prime(number), False, number)

    def test_squares_thirds_and_products_of_great_primes(self):
        for prime in NEAR_ROOT:
            self.assertIs(is_prime(prime), True)
            self.assertIs(is_prime(prime * prime), False)
        for prime in (2, 3, 5, 991, 997):
            self.assertIs(is_prime(prime * prime), False)
            self.assertIs(is_prime(prime ** 3), False)
        self.assertIs(is_prime(31601 * 31607), False)

    def test_wrong_things(self):
        for thing in wrong_numbers(0, MOST_TRIED):
            self.refused(NoNumber, "number", is_prime, thing)


class PartsOf(Case):
    def parted(self, number, parts):
        answer = parts_of(number)
        self.assertEqual(answer, parts)
        self.assertIs(type(answer), tuple)
        for part in answer:
            self.assertIs(type(part), tuple)
            self.assertEqual([type(part[0]), type(part[1])], [int, int])

    def test_by_hand(self):
        self.parted(1, ())
        self.parted(2, ((2, 1),))
        self.parted(3, ((3, 1),))
        self.parted(4, ((2, 2),))
        self.parted(12, ((2, 2), (3, 1)))
        self.parted(360, ((2, 3), (3, 2), (5, 1)))
        self.parted(97, ((97, 1),))
        self.parted(2 * 97, ((2, 1), (97, 1)))

    def test_as_tried(self):
        primes = [number for number in range(3001) if plainly_prime(number)]
        for number in range(1, 3001):
            parts = []
            for prime in primes:
                often = 0
                while number % prime ** (often + 1) == 0:
                    often += 1
                if often:
                    parts.append((prime, often))
            self.parted(number, tuple(parts))

    def test_the_most(self):
        self.parted(MOST_TRIED, ((2, 9), (5, 9)))
        self.parted(MOST_TRIED - 1, ((3, 4), (37, 1), (333667, 1)))
        self.parted(2 ** 29, ((2, 29),))
        self.parted(223092870, tuple((prime, 1) for prime in (2, 3, 5, 7, 11, 13, 17, 19, 23)))

    def test_great_primes_are_answered_quickly(self):
        for number in GREAT_PRIMES * 5:
            self.parted(number, ((number, 1),))
        self.parted(2 * 499999993, ((2, 1), (499999993, 1)))

    def test_squares_thirds_and_products_of_great_primes(self):
        for prime in NEAR_ROOT:
            self.parted(prime * prime, ((prime, 2),))
        for prime in (991, 997):
            self.parted(prime ** 3, ((prime, 3),))
        self.parted(31583 * 31607, ((31583, 1), (31607, 1)))
        self.parted(31601 * 31607, ((31601, 1), (31607, 1)))

    def test_the_same_question_has_the_same_answer(self):
        self.assertEqual([parts_of(5040)] * 5, [parts_of(5040) for _ in range(5)])

    def test_wrong_things(self):
        for thing in wrong_numbers(1, MOST_TRIED):
            self.refused(NoNumber, "number", parts_of, thing)


if __name__ == "__main__":
    unittest.main()
