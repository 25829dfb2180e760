import itertools
import unittest

from primepapers.errors import NoNumber, NoPair
from primepapers.pairs import norm_of, pair_raised, paired
from tests.helper import MOST, NO_WHOLE, Case, wrong_numbers

FAR_PAIRS = ((0, 0), (1, 0), (0, 1), (-1, -1), (MOST, MOST), (-MOST, MOST), (-MOST, -MOST), (MOST, 1 - MOST))


def no_pairs():
    """Things of every kind that are no pair."""
    things = [thing for thing in NO_WHOLE if thing != (1, 2)] + [7, [1, 2], (1, 2, 3), ((1, 2),), ((1, 2), (3, 4))]
    for wrong in wrong_numbers(-MOST, MOST):
        things += [(wrong, 1), (1, wrong), (wrong, wrong)]
    return things


def plainly_multiplied(one, other, d, n):
    first = one[0] * other[0] + d * one[1] * other[1]
    second = one[0] * other[1] + one[1] * other[0]
    return (first % n, second % n)


def multiplied_so_often(pair, often, d, n):
    made = (1 % n, 0)
    for _ in range(often):
        made = plainly_multiplied(made, pair, d, n)
    return made


class PairCase(Case):
    def pair(self, expected, answer):
        self.assertIs(type(answer), tuple)
        self.assertEqual([type(part) for part in answer], [int, int])
        self.assertEqual(answer, expected)


class Paired(PairCase):
    def test_by_hand(self):
        for one, other, d, n, product in (
            ((1, 2), (3, 4), 5, 30, (13, 10)),
            ((3, 4), (1, 2), 5, 30, (13, 10)),
            ((1, 1), (1, 1), 2, 7, (3, 2)),
            ((0, 1), (0, 1), 3, 7, (3, 0)),
            ((-1, 2), (3, -4), 5, 100, (57, 10)),
            ((1, 2), (3, 4), -5, 100, (63, 10)),
            ((2, 0), (3, 0), 9, 5, (1, 0)),
        ):
            with self.subTest(one=one, other=other, d=d, n=n):
                self.pair(product, paired(one, other, d, n))

    def test_as_multiplied(self):
        some = list(itertools.product((-5, -1, 0, 2, 7), repeat=2))
        for one, other in itertools.product(some, repeat=2):
            for d, n in ((-3, 11), (0, 4), (2, 9), (5, 1), (12, 5)):
                self.pair(plainly_multiplied(one, other, d, n), paired(one, other, d, n))

    def test_by_1_all_is_0(self):
        for one, other in itertools.product(FAR_PAIRS, repeat=2):
            self.pair((0, 0), paired(one, other, 3, 1))

    def test_far_numbers(self):
        for one, other in itertools.product(FAR_PAIRS, repeat=2):
            for d, n in itertools.product((-MOST, 0, MOST), (1, 2, MOST - 1, MOST)):
                self.pair(plainly_multiplied(one, other, d, n), paired(one, other, d, n))
        self.pair((2, 2), paired((MOST, MOST), (MOST, MOST), MOST, MOST - 1))

    def test_the_answer_is_none_that_was_handed_in(self):
        one, other = (1, 0), (3, 4)
        answer = paired(one, other, 2, 7)
        self.pair((3, 4), answer)
        self.assertIsNot(answer, other)

    def test_wrong_things_in_each_place(self):
        for thing in no_pairs():
            self.refused(NoPair, "one", paired, thing, (1, 2), 3, 7)
            self.refused(NoPair, "other", paired, (1, 2), thing, 3, 7)
        for thing in wrong_numbers(-MOST, MOST):
            self.refused(NoNumber, "d", paired, (1, 2), (3, 4), thing, 7)
        for thing in wrong_numbers(1, MOST):
            self.refused(NoNumber, "n", paired, (1, 2), (3, 4), 3, thing)

    def test_the_leftmost_wrong_thing_is_refused(self):
        self.refused(NoPair, "one", paired, [1, 2], [3, 4], 3, 7)
        self.refused(NoPair, "one", paired, (1,), (3, 4), None, 0)
        self.refused(NoPair, "one", paired, (1, True), (1, 2, 3), "3", False)
        self.refused(NoPair, "other", paired, (1, 2), (3, MOST + 1), 3, 0)
        self.refused(NoPair, "other", paired, (1, 2), None, True, 7)
        self.refused(NoNumber, "d", paired, (1, 2), (3, 4), MOST + 1, 0)


class PairRaised(PairCase):
    def test_by_hand(self):
        for pair, often, d, n, power in (
            ((1, 1), 2, 2, 7, (3, 2)),
            ((1, 1), 3, 2, 100, (7, 5)),
            ((2, 1), 2, 3, 7, (0, 4)),
            ((2, 1), 1, 3, 7, (2, 1)),
            ((0, 1), 4, -1, 13, (1, 0)),
            ((-1, -1), 3, 2, 100, (93, 95)),
        ):
            with self.subTest(pair=pair, often=often, d=d, n=n):
                self.pair(power, pair_raised(pair, often, d, n))

    def test_as_multiplied_so_often(self):
        for pair in itertools.product((-3, 0, 1, 2, 6), repeat=2):
            for d, n in ((-1, 13), (0, 4), (2, 9), (3, 1), (12, 5), (7, 10 ** 12)):
                for often in range(18):
                    self.pair(multiplied_so_often(pair, often, d, n), pair_raised(pair, often, d, n))

    def test_often_0_is_1_and_0_as_rests(self):
        for pair in FAR_PAIRS:
            self.pair((1, 0), pair_raised(pair, 0, 3, 7))
            self.pair((1, 0), pair_raised(pair, 0, 3, MOST))
            self.pair((0, 0), pair_raised(pair, 0, 3, 1))

    def test_often_1_is_the_pair_as_rests(self):
        pair = (3, 4)
        answer = pair_raised(pair, 1, 2, 7)
        self.pair((3, 4), answer)
        self.assertIsNot(answer, pair)
        self.pair((4, 3), pair_raised((-3, 10), 1, 2, 7))

    def test_by_1_all_is_0(self):
        for pair in FAR_PAIRS:
            for often in (1, 2, 3, MOST):
                self.pair((0, 0), pair_raised(pair, often, 3, 1))

    def test_often_the_most_is_answered_quickly(self):
        # Where d is the square of r, x + r y and x - r y are raised as whole numbers are.
        for pair in FAR_PAIRS + ((3, 4), (-5, 2)):
            for r, n in itertools.product((0, 3, 10 ** 15), (2, 10007, MOST - 1, MOST)):
                for often in (MOST - 1, MOST):
                    x, y = pair_raised(pair, often, r * r, n)
                    self.assertTrue(0 <= x < n and 0 <= y < n)
                    for root in (r, -r):
                        self.assertEqual((x + root * y) % n, pow(pair[0] + root * pair[1], often, n))

    def test_a_pair_comes_home(self):
        # 3 is no square by 7, and (2, 1) has norm 1: home behind 8 steps.
        self.pair((1, 0), pair_raised((2, 1), 8, 3, 7))
        self.pair((6, 0), pair_raised((2, 1), 4, 3, 7))
        self.pair((1, 0), pair_raised((2, 1), 8 * 10 ** 29, 3, 7))

    def test_wrong_things_in_each_place(self):
        for thing in no_pairs():
            self.refused(NoPair, "pair", pair_raised, thing, 5, 3, 7)
        for thing in wrong_numbers(0, MOST):
            self.refused(NoNumber, "often", pair_raised, (1, 2), thing, 3, 7)
        for thing in wrong_numbers(-MOST, MOST):
            self.refused(NoNumber, "d", pair_raised, (1, 2), 5, thing, 7)
        for thing in wrong_numbers(1, MOST):
            self.refused(NoNumber, "n", pair_raised, (1, 2), 5, 3, thing)

    def test_the_leftmost_wrong_thing_is_refused(self):
        self.refused(NoPair, "pair", pair_raised, [1, 2], -1, None, 0)
        self.refused(NoPair, "pair", pair_raised, (1, None), 5, 3, 0)
        self.refused(NoNumber, "often", pair_raised, (1, 2), -1, "3", 0)
        self.refused(NoNumber, "d", pair_raised, (1, 2), 5, True, 0)


class NormOf(PairCase):
    def test_by_hand(self):
        for pair, d, n, norm in (
            ((2, 1), 3, 7, 1), ((3, 2), 2, 100, 1), ((1, 1), 2, 7, 6), ((0, 1), 3, 7, 4), ((5, 0), 3, 7, 4),
            ((-2, -1), 3, 7, 1), ((1, 2), -5, 100, 21), ((0, 0), 3, 7, 0),
        ):
            with self.subTest(pair=pair, d=d, n=n):
                self.whole(norm, norm_of(pair, d, n))

    def test_as_multiplied(self):
        for x, y in itertools.product(range(-6, 7), repeat=2):
            for d, n in itertools.product((-4, 0, 1, 3, 20), (1, 2, 7, 12)):
                self.whole((x * x - d * y * y) % n, norm_of((x, y), d, n))

    def test_the_norm_of_a_product_is_the_product_of_the_norms(self):
        for one, other in itertools.product(FAR_PAIRS + ((3, 4), (-5, 2)), repeat=2):
            for d, n in ((3, 7), (-2, MOST - 1), (MOST, 10007)):
                product = norm_of(one, d, n) * norm_of(other, d, n) % n
                self.whole(product, norm_of(paired(one, other, d, n), d, n))

    def test_by_1_it_is_0(self):
        for pair in FAR_PAIRS:
            self.whole(0, norm_of(pair, 3, 1))

    def test_far_numbers(self):
        for (x, y), d, n in itertools.product(FAR_PAIRS, (-MOST, 0, MOST), (2, MOST - 1, MOST)):
            self.whole((x * x - d * y * y) % n, norm_of((x, y), d, n))
        self.whole(0, norm_of((MOST, -MOST), MOST, MOST - 1))

    def test_wrong_things_in_each_place(self):
        for thing in no_pairs():
            self.refused(NoPair, "pair", norm_of, thing, 3, 7)
        for thing in wrong_numbers(-MOST, MOST):
            self.refused(NoNumber, "d", norm_of, (1, 2), thing, 7)
        for thing in wrong_numbers(1, MOST):
            self.refused(NoNumber, "n", norm_of, (1, 2), 3, thing)

    def test_the_leftmost_wrong_thing_is_refused(self):
        self.refused(NoPair, "pair", norm_of, None, None, None)
        self.refused(NoPair, "pair", norm_of, (1, 2, 3), 3, 0)
        self.refused(NoNumber, "d", norm_of, (1, 2), False, 0)


if __name__ == "__main__":
    unittest.main()
