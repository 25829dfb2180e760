import math
import unittest

from primepapers.errors import NoNumber
from primepapers.rests import raised, shared, undone
from tests.helper import MOST, Case, wrong_numbers

FAR = (-MOST, -MOST + 1, -7, -1, 0, 1, 2, 12, MOST - 1, MOST)


def multiplied(base, often, n):
    made = 1
    for _ in range(often):
        made *= base
    return made % n


class Raised(Case):
    def test_by_hand(self):
        for base, often, n, rest in (
            (2, 10, 1000, 24), (3, 4, 7, 4), (2, 5, 32, 0), (5, 1, 7, 5), (7, 2, 50, 49), (10, 9, 11, 10),
            (-2, 3, 7, 6), (-1, 2, 5, 1), (-1, 3, 5, 4), (-3, 1, 10, 7),
        ):
            with self.subTest(base=base, often=often, n=n):
                self.whole(rest, raised(base, often, n))

    def test_as_multiplied_so_often(self):
        for base in range(-12, 13):
            for often in range(14):
                for n in range(1, 25):
                    self.assertEqual(raised(base, often, n), multiplied(base, often, n), (base, often, n))

    def test_often_0_is_the_rest_of_1(self):
        for base in FAR:
            self.whole(1, raised(base, 0, 7))
            self.whole(1, raised(base, 0, MOST))
            self.whole(0, raised(base, 0, 1))

    def test_by_1_the_rest_is_0(self):
        for base in FAR:
            for often in (0, 1, 2, 5, MOST):
                self.whole(0, raised(base, often, 1))

    def test_often_the_most_is_answered_quickly(self):
        for base in FAR:
            for n in (1, 2, 10 ** 9 + 7, MOST - 1, MOST):
                for often in (MOST - 1, MOST):
                    self.whole(pow(base, often, n), raised(base, often, n))

    def test_far_bases(self):
        self.whole(0, raised(MOST, 1, MOST))
        self.whole(0, raised(-MOST, 1, MOST))
        self.whole(1, raised(MOST, 2, MOST - 1))
        self.whole(MOST - 2, raised(-MOST, 3, MOST - 1))

    def test_the_same_question_has_the_same_answer(self):
        self.assertEqual([raised(3, MOST, 10007)] * 5, [raised(3, MOST, 10007) for _ in range(5)])

    def test_wrong_things_in_each_place(self):
        for thing in wrong_numbers(-MOST, MOST):
            self.refused(NoNumber, "base", raised, thing, 5, 7)
        for thing in wrong_numbers(0, MOST):
            self.refused(NoNumber, "often", raised, 2, thing, 7)
        for thing in wrong_numbers(1, MOST):
            self.refused(NoNumber, "n", raised, 2, 5, thing)

    def test_the_leftmost_wrong_thing_is_refused(self):
        self.refused(NoNumber, "base", raised, None, -1, 0)
        self.refused(NoNumber, "base", raised, [2], -1, 7)
        self.refused(NoNumber, "base", raised, MOST + 1, 5, "7")
        self.refused(NoNumber, "often", raised, 2, True, False)


class Shared(Case):
    def test_by_hand(self):
        for one, other, both in (
            (12, 18, 6), (18, 12, 6), (7, 5, 1), (1, 1, 1), (9, 9, 9), (4, 12, 4),
            (-12, 18, 6), (12, -18, 6), (-12, -18, 6), (-7, -7, 7),
        ):
            with self.subTest(one=one, other=other):
                self.whole(both, shared(one, other))

    def test_0(self):
        self.whole(0, shared(0, 0))
        for number in FAR:
            self.whole(abs(number), shared(0, number))
            self.whole(abs(number), shared(number, 0))

    def test_as_tried(self):
        for one in range(-30, 31):
            for other in range(-30, 31):
                both = [k for k in range(1, 31) if one % k == 0 and other % k == 0]
                if one != 0 or other != 0:
                    self.assertEqual(shared(one, other), max(both), (one, other))

    def test_far_numbers_are_answered_quickly(self):
        for one in FAR:
            for other in FAR:
                self.whole(math.gcd(one, other), shared(one, other))
        self.whole(1, shared(1, MOST))
        self.whole(10 ** 15, shared(MOST, 3 * 10 ** 15 + 10 ** 16))

    def test_wrong_things_in_each_place(self):
        for thing in wrong_numbers(-MOST, MOST):
            self.refused(NoNumber, "one", shared, thing, 6)
            self.refused(NoNumber, "other", shared, 6, thing)
            self.refused(NoNumber, "other", shared, 0, thing)

    def test_the_leftmost_wrong_thing_is_refused(self):
        self.refused(NoNumber, "one", shared, True, None)
        self.refused(NoNumber, "one", shared, -MOST - 1, MOST + 1)


class Undone(Case):
    def test_by_hand(self):
        for number, n, rest in ((3, 7, 5), (2, 9, 5), (1, 2, 1), (10, 11, 10), (-3, 7, 2), (-1, 10, 9), (24, 7, 5)):
            with self.subTest(number=number, n=n):
                self.whole(rest, undone(number, n))

    def test_none_where_there_is_none(self):
        for number, n in ((0, 2), (0, MOST), (2, 4), (6, 9), (-10, 15), (7, 7), (MOST, MOST), (-MOST, 10)):
            with self.subTest(number=number, n=n):
                self.assertIsNone(undone(number, n))

    def test_by_1_it_is_0(self):
        for number in FAR:
            self.whole(0, undone(number, 1))

    def test_as_tried(self):
        for n in range(1, 41):
            for number in range(-45, 46):
                rests = [rest for rest in range(n) if (rest * number - 1) % n == 0]
                self.assertEqual(undone(number, n), rests[0] if rests else None, (number, n))

    def test_far_numbers_are_answered_quickly(self):
        self.whole(1, undone(1, MOST))
        self.whole(MOST - 1, undone(-1, MOST))
        self.whole(1, undone(MOST, MOST - 1))
        self.whole(MOST - 2, undone(-MOST, MOST - 1))
        for number in (3, 7 ** 30, -(3 ** 50), MOST - 1, 1 - MOST):
            rest = undone(number, MOST)
            self.assertTrue(0 <= rest < MOST)
            self.assertEqual(rest * number % MOST, 1)

    def test_wrong_things_in_each_place(self):
        for thing in wrong_numbers(-MOST, MOST):
            self.refused(NoNumber, "number", undone, thing, 7)
        for thing in wrong_numbers(1, MOST):
            self.refused(NoNumber, "n", undone, 3, thing)

    def test_the_leftmost_wrong_thing_is_refused(self):
        self.refused(NoNumber, "number", undone, False, 0)
        self.refused(NoNumber, "number", undone, (3,), None)


if __name__ == "__main__":
    unittest.main()
