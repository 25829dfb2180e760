import math
import unittest

from primepapers.errors import NoNumber, NoPrime, TooGreat
from primepapers.orders import all_roots, least_root, many_of_order, many_rests, order_of
from tests.helper import MOST, MOST_TRIED, Case, plain_parts, primes_to, wrong_numbers

NO_PRIMES = (1, 4, 6, 9, 15, 561, 1000, 1001, 997 * 1009, 31607 ** 2, 31601 * 31607, MOST_TRIED - 1, MOST_TRIED)
NEAR_THE_MOST = (999999937, 999999929, 999999893, 999999883, 999999797)


def counted_order(number, n):
    """Counted by multiplying; None where no power has the rest of 1."""
    power = 1
    for often in range(1, n + 1):
        power = power * number % n
        if power == 1 % n:
            return often
    return None


class OrderOf(Case):
    def order(self, number, n, expected):
        answer = order_of(number, n)
        if expected is None:
            self.assertIsNone(answer, (number, n))
        else:
            self.whole(expected, answer)

    def is_least(self, number, n):
        """The power has the rest of 1 by n, and no power through a prime of it has."""
        often = order_of(number, n)
        self.assertIs(type(often), int)
        self.assertEqual(pow(number, often, n), 1)
        for prime, times in plain_parts(often):
            self.assertNotEqual(pow(number, often // prime, n), 1)
        return often

    def test_by_hand(self):
        for number, n, expected in (
            (2, 3, 2), (2, 7, 3), (3, 7, 6), (10, 7, 6), (10, 13, 6), (10, 37, 3), (10, 9, 1), (2, 15, 4), (4, 15, 2),
            (7, 8, 2), (3, 16, 4), (5, 5, None), (6, 9, None), (0, 7, None), (14, 7, None), (-1, 7, 2), (1, 7, 1),
            (8, 7, 1), (-6, 7, 1), (1, 2, 1), (3, 2, 1), (0, 2, None),
        ):
            self.order(number, n, expected)

    def test_as_counted(self):
        for n in range(1, 301):
            for number in range(-n, n + 2):
                self.order(number, n, counted_order(number % n, n))

    def test_by_1_it_is_1(self):
        for number in (-MOST, -1, 0, 1, 2, MOST):
            self.order(number, 1, 1)

    def test_it_is_none_just_where_more_than_1_is_shared(self):
        for n in (2, 12, 97, 360, 31607 ** 2, 31601 * 31607, MOST_TRIED):
            for number in (*range(-50, 51), 31601, 31607, -31607 * 2, MOST, -MOST, MOST - 1):
                self.assertEqual(order_of(number, n) is None, math.gcd(number, n) > 1, (number, n))

    def test_far_numbers(self):
        self.order(MOST, 7, 1)
        self.order(-MOST, 7, 2)
        self.order(MOST, 11, 1)
        self.order(-MOST, 11, 2)
        self.order(MOST, 17, counted_order(MOST % 17, 17))
        self.order(-MOST, 17, counted_order(-MOST % 17, 17))
        self.order(MOST, MOST_TRIED, None)
        self.order(0, MOST_TRIED, None)
        self.order(-MOST, 3, 2)

    def test_great_numbers_are_answered_quickly(self):
        self.order(3, MOST_TRIED, 50000000)
        self.order(MOST_TRIED - 1, MOST_TRIED, 2)
        self.order(10, MOST_TRIED - 1, 9)
        self.order(2, 2 ** 29 - 1, 29)
        self.order(3, 2 ** 29, 2 ** 27)
        self.order(31608, 31607 ** 2, 31607)
        for n in (*NEAR_THE_MOST, 31607 ** 2, 31601 * 31607, 2 * 499999993, 223092870, 3 ** 18, 2 ** 29, MOST_TRIED):
            for number in (7 * 11 + 2, -79, MOST - 57, 31 - MOST):
                if math.gcd(number, n) == 1:
                    self.is_least(number, n)

    def test_wrong_things_in_each_place(self):
        for thing in wrong_numbers(-MOST, MOST):
            self.refused(NoNumber, "number", order_of, thing, 7)
        for thing in wrong_numbers(1, MOST_TRIED):
            self.refused(NoNumber, "n", order_of, 3, thing)

    def test_the_leftmost_wrong_thing_is_refused(self):
        self.refused(NoNumber, "number", order_of, True, 0)
        self.refused(NoNumber, "number", order_of, None, None)
        self.refused(NoNumber, "number", order_of, MOST + 1, MOST_TRIED + 1)
        self.refused(NoNumber, "n", order_of, 0, MOST)


class ManyRests(Case):
    def test_as_counted(self):
        for n in range(1, 501):
            self.whole(len([k for k in range(1, n + 1) if math.gcd(k, n) == 1]), many_rests(n))

    def test_great_numbers_are_answered_quickly(self):
        self.whole(400000000, many_rests(MOST_TRIED))
        self.whole(2 ** 28, many_rests(2 ** 29))
        self.whole(31607 * 31606, many_rests(31607 ** 2))
        self.whole(31600 * 31606, many_rests(31601 * 31607))
        self.whole(36495360, many_rests(223092870))
        self.whole(499999992, many_rests(2 * 499999993))
        self.whole(648646704, many_rests(MOST_TRIED - 1))
        for prime in NEAR_THE_MOST:
            self.whole(prime - 1, many_rests(prime))

    def test_wrong_things(self):
        for thing in wrong_numbers(1, MOST_TRIED):
            self.refused(NoNumber, "n", many_rests, thing)


class LeastRoot(Case):
    def test_by_hand(self):
        for prime, root in ((2, 1), (3, 2), (5, 2), (7, 3), (11, 2), (17, 3), (23, 5), (41, 6), (71, 7), (191, 19)):
            self.whole(root, least_root(prime))

    def test_as_counted(self):
        for prime in primes_to(1100):
            root = next(k for k in range(1, prime) if counted_order(k, prime) == prime - 1)
            self.whole(root, least_root(prime))

    def test_great_primes_are_answered_quickly(self):
        for prime in NEAR_THE_MOST:
            root = least_root(prime)
            self.assertIs(type(root), int)
            for base in range(1, root + 1):
                powers = [pow(base, (prime - 1) // part, prime) for part, often in plain_parts(prime - 1)]
                self.assertEqual(1 not in powers, base == root, (prime, base))

    def test_wrong_things(self):
        for thing in wrong_numbers(1, MOST_TRIED):
            self.refused(NoNumber, "p", least_root, thing)
        for number in NO_PRIMES:
            self.refused(NoPrime, "p", least_root, number)


class ManyOfOrder(Case):
    def test_as_counted(self):
        for prime in primes_to(150):
            orders = [counted_order(k, prime) for k in range(1, prime)]
            for often in range(1, 2 * prime):
                self.whole(orders.count(often), many_of_order(prime, often))

    def test_edges(self):
        for prime in (*primes_to(50), 997, 1009, *NEAR_THE_MOST):
            self.whole(1, many_of_order(prime, 1))
            self.whole(0, many_of_order(prime, prime))
            self.whole(0, many_of_order(prime, MOST_TRIED))
        self.whole(1, many_of_order(2, 1))
        self.whole(0, many_of_order(2, 2))
        self.whole(1, many_of_order(3, 2))
        self.whole(288, many_of_order(1009, 1008))
        self.whole(328, many_of_order(997, 996))
        self.whole(0, many_of_order(1009, 5))

    def test_great_primes_are_answered_quickly(self):
        self.whole(32 * 6 * 12 * 82 * 1608, many_of_order(999999937, 999999936))
        self.whole(1608, many_of_order(999999937, 1609))
        self.whole(0, many_of_order(999999937, 5))
        self.whole(0, many_of_order(999999937, 2 * 999999936 // 4 + 1))
        for prime in NEAR_THE_MOST[:2]:
            orders = [1]
            for part, often in plain_parts(prime - 1):
                orders = [order * part ** times for order in orders for times in range(often + 1)]
            self.assertEqual(sum(many_of_order(prime, order) for order in orders), prime - 1)

    def test_wrong_things_in_each_place(self):
        for thing in wrong_numbers(1, MOST_TRIED):
            self.refused(NoNumber, "p", many_of_order, thing, 3)
            self.refused(NoNumber, "often", many_of_order, 7, thing)
        for number in NO_PRIMES:
            self.refused(NoPrime, "p", many_of_order, number, 3)

    def test_a_number_ahead_of_a_prime_ahead_of_often(self):
        self.refused(NoNumber, "p", many_of_order, 0, 0)
        self.refused(NoNumber, "p", many_of_order, True, None)
        for wrong in (0, MOST_TRIED + 1, True, None, "3", []):
            self.refused(NoPrime, "p", many_of_order, 1, wrong)
            self.refused(NoPrime, "p", many_of_order, MOST_TRIED, wrong)
            self.refused(NoNumber, "often", many_of_order, 2, wrong)


class AllRoots(Case):
    def roots(self, prime, expected):
        answer = all_roots(prime)
        self.assertIs(type(answer), list)
        self.assertTrue(all(type(root) is int for root in answer))
        self.assertEqual(answer, expected)

    def test_by_hand(self):
        self.roots(2, [1])
        self.roots(3, [2])
        self.roots(5, [2, 3])
        self.roots(7, [3, 5])
        self.roots(11, [2, 6, 7, 8])
        self.roots(13, [2, 6, 7, 11])

    def test_as_counted(self):
        for prime in (*primes_to(250), 997):
            self.roots(prime, [k for k in range(1, prime) if counted_order(k, prime) == prime - 1])

    def test_all_have_the_order_and_so_many_have_it(self):
        for prime in primes_to(1000):
            self.assertEqual(len(all_roots(prime)), many_of_order(prime, prime - 1))
            self.assertEqual(all_roots(prime)[0], least_root(prime))

    def test_the_list_is_the_askers_own(self):
        first = all_roots(13)
        second = all_roots(13)
        self.assertIsNot(first, second)
        first.clear()
        first.append("other")
        self.roots(13, [2, 6, 7, 11])
        self.assertEqual(second, [2, 6, 7, 11])

    def test_wrong_things(self):
        for thing in wrong_numbers(1, MOST_TRIED):
            self.refused(NoNumber, "p", all_roots, thing)
        for number in NO_PRIMES:
            self.refused(NoPrime, "p", all_roots, number)

    def test_too_great(self):
        for prime in (1009, 1013, 99991, *NEAR_THE_MOST):
            with self.assertRaises(TooGreat) as caught:
                all_roots(prime)
            self.assertIs(type(caught.exception), TooGreat)
            self.whole(prime, caught.exception.many)
            self.whole(1000, caught.exception.most)


if __name__ == "__main__":
    unittest.main()
