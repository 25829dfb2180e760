import itertools
import math
import unittest

from primepapers.errors import NoNumber
from primepapers.full import full_paper, is_full
from primepapers.papers import is_paper
from primepapers.share import is_share, share_paper
from tests.helper import (
    GREATEST_PRIME, MOST, WORDS, Case, altered, as_it_stands, made_full, made_mixed, made_other, made_rows,
    made_share, nested, no_papers, pair_times, plain_parts, primes_to, reads, share_of, steps_home,
    wrong_numbers,
)

TWO = ("two",)
THREE = ("full", 2, ((2, 1, TWO),))
OTHER_THREE = ("other", 2, (0, 1), ((2, 2, TWO),))
NO_PRIMES = (9, 15, 21, 25, 27, 33, 35, 49, 91, 121, 323, 377, 5777, 1763, 31607 ** 2)


class Kinds(Case):
    def test_of_all_kinds(self):
        for n in primes_to(400)[1:]:
            for paper in (full_paper(n), share_paper(n), made_full(n), made_share(n), made_other(n), made_mixed(n)):
                self.assertIs(is_paper(n, paper), True, (n, paper))
                self.assertIs(is_full(n, paper), paper[0] == "full")
                self.assertIs(is_share(n, paper), paper[0] == "share")
                for other in (1, 2, n - 2, n - 1, n + 1, n + 2, 2 * n, n * n):
                    self.assertIs(is_paper(other, paper), False, (other, paper))

    def test_2_and_1(self):
        self.assertIs(is_paper(2, TWO), True)
        self.assertIs(is_paper(1, TWO), False)
        for word, n in itertools.product(WORDS, (1, 2)):
            for thing in ((word, 1, ()), (word, 0, ()), (word, 1, (0, 1), ()), (word, 1, (1, 0), THREE[2])):
                self.assertIs(is_paper(n, thing), False)

    def test_full_papers_have_full_ones_within(self):
        share_of_3 = ("share", 2, ((2, 1, TWO),))
        for inner, expected in ((THREE, True), (share_of_3, False), (OTHER_THREE, False)):
            self.assertIs(is_paper(3, inner), True)
            self.assertIs(is_paper(7, ("full", 3, ((2, 1, TWO), (3, 1, inner)))), expected)
            self.assertIs(is_paper(7, ("share", 3, ((2, 1, TWO), (3, 1, inner)))), True)
            seven = ("full", 3, ((2, 1, TWO), (3, 1, inner)))
            self.assertIs(is_paper(29, ("share", 2, ((7, 1, seven),))), expected)
            self.assertIs(is_paper(5, made_other(5)[:3] + (((2, 1, TWO), (3, 1, inner)),)), True)
            self.assertIs(is_paper(13, made_other(13)[:3] + (((2, 1, TWO), (7, 1, seven)),)), expected)

    def test_one_thing_otherwise(self):
        for n in (2, 3, 5, 7, 13):
            for maker in (made_full, made_share, made_other, made_mixed):
                if n > 2 or maker is made_full:
                    self.read_alike(n, maker(n), is_paper, WORDS)

    def test_one_thing_otherwise_far_within(self):
        for n in (83, 107, 167, 227):
            paper = made_mixed(n)
            self.read_alike(n, paper, is_paper, WORDS)
        self.read_alike(167, made_share(167), is_paper, WORDS)

    def test_great_numbers(self):
        for paper in (made_full(GREATEST_PRIME), made_other(GREATEST_PRIME)):
            self.assertIs(is_paper(GREATEST_PRIME, paper), True)
            for n in (MOST, MOST - 1, GREATEST_PRIME - 1, GREATEST_PRIME - 2, 1, 2):
                self.assertIs(is_paper(n, paper), False)

    def test_things_that_are_none(self):
        for n in (1, 2, 3, 4, 5, 7, 9, 11, 401, MOST - 1, MOST):
            for thing in no_papers():
                before = as_it_stands(thing)
                self.assertIs(is_paper(n, thing), False)
                self.assertTrue(before == as_it_stands(thing))
            self.assertIs(is_paper(n, nested("two", 5000)), False)

    def test_what_is_done_later_changes_nothing(self):
        rows = [(2, 1, TWO)]
        for _ in range(3):
            self.assertIs(is_paper(3, ("full", 2, tuple(rows))), True)
            rows.append((3, 1, THREE))
            self.assertIs(is_paper(3, ("full", 2, tuple(rows))), False)
            self.assertIs(is_paper(3, ("full", 2, rows)), False)
            rows.pop()

    def test_wrong_numbers(self):
        for thing in wrong_numbers(1, MOST):
            self.refused(NoNumber, "n", is_paper, thing, TWO)
            self.refused(NoNumber, "n", is_paper, thing, None)
            self.refused(NoNumber, "n", is_paper, thing, ("other", 2, (0, 1), ()))


class ByTheNumberOneMore(Case):
    def test_by_hand(self):
        # 3 is no square by 7, and (2, 1) comes home behind 8 steps; so by 31 and 127 behind 32 and 128.
        self.assertIs(is_paper(3, OTHER_THREE), True)
        for often in (3, 5, 7, 13, 17, 19, 31, 61, 89):
            paper = ("other", 3, (2, 1), ((2, often, TWO),))
            self.assertIs(is_paper(2 ** often - 1, paper), True)
            self.assertIs(is_full(2 ** often - 1, paper), False)
            self.assertIs(is_share(2 ** often - 1, paper), False)
        for often in (1, 2, 4, 9, 11, 15, 23, 29, 37, 67, 99):
            self.assertIs(is_paper(2 ** often - 1, ("other", 3, (2, 1), ((2, often, TWO),))), False)

    def test_each_d_and_pair_of_small_primes(self):
        for n in (3, 5, 7, 11, 13, 17, 19):
            rows = made_rows(n + 1, made_full)
            many = 0
            for d, x, y in itertools.product(range(-1, n + 2), repeat=3):
                inside = 1 <= d < n and 0 <= x < n and 0 <= y < n
                good = inside and (x * x - d * y * y) % n == 1 and steps_home((x, y), d, n) == n + 1
                self.assertIs(is_paper(n, ("other", d, (x, y), rows)), good, (n, d, x, y))
                many += good
            self.assertEqual(many, (n - 1) // 2 * len([k for k in range(n + 1) if math.gcd(k, n + 1) == 1]))

    def test_each_d_and_pair_of_small_numbers_that_are_no_primes(self):
        for n in (1, 9, 15, 21, 25, 27):
            rows = made_rows(n + 1, made_full)
            for d, x, y in itertools.product(range(n + 1), repeat=3):
                self.assertIs(is_paper(n, ("other", d, (x, y), rows)), False)

    def test_even_numbers_have_none(self):
        for n in (2, 4, 6, 8, 10, 14, 16):
            rows = made_rows(n + 1, made_full)
            for d, x, y in itertools.product(range(n), repeat=3):
                self.assertIs(is_paper(n, ("other", d, (x, y), rows)), False)

    def test_greater_numbers_that_are_no_primes(self):
        for n in NO_PRIMES:
            rows = made_rows(n + 1, made_full)
            for d, x in itertools.product(range(1, 12), range(2, 12)):
                if math.gcd(x * x - d, n) == 1:
                    square = pair_times((x, 1), (x, 1), d, n)
                    undoing = pow(x * x - d, -1, n)
                    pair = (square[0] * undoing % n, square[1] * undoing % n)
                    self.assertIs(is_paper(n, ("other", d, pair, rows)), False)

    def test_rows_with_primes_that_are_none(self):
        for n in (7, 9, 13, 15, 25):
            for inner in (TWO, THREE, OTHER_THREE, made_full(5), made_full(7), None):
                for d, x, y in itertools.product(range(n), repeat=3):
                    thing = ("other", d, (x, y), ((n + 1, 1, inner),))
                    self.assertIs(is_paper(n, thing), False)

    def test_any_papers_within(self):
        for n in primes_to(150)[1:]:
            for maker in (made_full, made_share, made_mixed, lambda p: TWO if p == 2 else made_other(p)):
                paper = made_other(n, maker)
                self.assertIs(is_paper(n, paper), True, n)
                self.assertIs(is_full(n, paper), False)
                self.assertIs(is_share(n, paper), False)

    def test_numbers_that_differ_by_n_are_not_the_same(self):
        for n in (3, 7, 13, 31, GREATEST_PRIME):
            word, d, (x, y), rows = made_other(n)
            self.assertIs(is_paper(n, (word, d, (x, y), rows)), True)
            for thing in (
                (word, d + n, (x, y), rows), (word, d - n, (x, y), rows), (word, d, (x + n, y), rows),
                (word, d, (x - n, y), rows), (word, d, (x, y + n), rows), (word, d, (x, y - n), rows),
                (word, d, [x, y], rows), (word, d, (x, y, 0), rows), (word, d, (x,), rows), (word, d, x, rows),
                (word, 0, (x, y), rows), (word, d, (1, 0), rows), (word, d, (n - 1, 0), rows), (word, d, (x, y)),
                (word, d, (x, y), list(rows)), (word, d, (x, y), ()), (word, d, (x, y), rows, rows),
            ):
                self.assertIs(is_paper(n, thing), False, thing)

    def test_the_pair_the_other_way_round(self):
        for n in primes_to(60)[1:]:
            word, d, (x, y), rows = made_other(n)
            self.assertIs(is_paper(n, (word, d, (x, n - y), rows)), True)
            turned = (word, d, (y, x), rows)
            self.assertIs(is_paper(n, turned), reads(n, turned))

    def test_truths_are_no_numbers(self):
        self.assertIs(is_paper(3, ("other", 2, (False, 1), ((2, 2, TWO),))), False)
        self.assertIs(is_paper(3, ("other", 2, (0, True), ((2, 2, TWO),))), False)
        self.assertIs(is_paper(7, ("other", 3, (2, True), ((2, 3, TWO),))), False)
        five = made_other(5)
        self.assertIs(is_paper(5, five), True)
        self.assertIs(is_paper(5, five[:3] + (((2, True, TWO), (3, 1, THREE)),)), False)

    def test_rows_of_the_number_one_more_alone(self):
        for n in primes_to(100)[1:]:
            word, d, pair, rows = made_other(n)
            parts = plain_parts(n + 1)
            for order in itertools.permutations(rows):
                self.assertIs(is_paper(n, (word, d, pair, order)), order == rows)
            for prime, often in parts:
                less = tuple(row for row in rows if row[0] != prime)
                fewer = tuple((p, e - (p == prime), paper) for p, e, paper in rows)
                more = tuple((p, e + (p == prime), paper) for p, e, paper in rows)
                for some in (less, fewer, more, rows * 2):
                    self.assertIs(is_paper(n, (word, d, pair, some)), False)
            self.assertIs(is_paper(n, (word, d, pair, made_rows(n - 1, made_full))), False)

    def test_one_thing_otherwise(self):
        for n in (3, 5, 11, 23, 31):
            self.read_alike(n, made_other(n), is_paper, WORDS)
        self.read_alike(61, made_other(61, made_mixed), is_paper, WORDS)

    def test_within_a_share_paper(self):
        for n in (7, 11, 23, 29, 59, 83):
            prime, often = plain_parts(n - 1)[-1]
            rows = ((prime, often, made_other(prime)),)
            paper = share_of(n, rows)
            self.assertIs(is_paper(n, paper), True)
            self.assertIs(is_share(n, paper), True)
            self.assertIs(is_full(n, paper), False)

    def test_great_numbers_with_one_thing_otherwise(self):
        for thing in itertools.islice(altered(made_other(GREATEST_PRIME)), 0, None, 11):
            self.assertIs(is_paper(GREATEST_PRIME, thing), reads(GREATEST_PRIME, thing), thing)


if __name__ == "__main__":
    unittest.main()
