import itertools
import unittest

from primepapers.errors import NoNumber, NoPaper
from primepapers.full import full_depth, full_paper, full_primes, full_size, is_full, many_full
from tests.helper import (
    GREATEST_PRIME, MOST, MOST_TRIED, Case, altered, as_it_stands, made_full, made_mixed, made_other, made_share,
    nested, no_papers, plain_parts, primes_to, reads, wrong_numbers,
)

TWO = ("two",)
THREE = ("full", 2, ((2, 1, TWO),))
FIVE = ("full", 2, ((2, 2, TWO),))
SEVEN = ("full", 3, ((2, 1, TWO), (3, 1, THREE)))
GREAT_PRIMES = (999999937, 999999929, 999999893, 999999883, 999999797)
SMOOTH_PRIMES = (
    # Primes near the most, one more than a product of twos, threes and fives.
    (969325983275608524718080000001, ((2, 58), (3, 16), (5, 7))),
    (971516248772754014208000000001, ((2, 28), (3, 32), (5, 9))),
    (991302848186959038844250357761, ((2, 26), (3, 45), (5, 1))),
)
NO_PRIMES = (1, 4, 6, 9, 25, 561, 1105, 1729, 31607 ** 2, 31601 * 31607, 997 * 1009, MOST_TRIED - 1, MOST_TRIED)
FULL = ("two", "full")


def all_full(n):
    """All full papers of a small prime, by going through all bases."""
    if n == 2:
        return [TWO]
    parts = plain_parts(n - 1)
    found = []
    for papers in itertools.product(*[all_full(prime) for prime, often in parts]):
        rows = tuple((prime, often, paper) for (prime, often), paper in zip(parts, papers))
        for base in range(1, n):
            if reads(n, ("full", base, rows)):
                found.append(("full", base, rows))
    return found


class IsFull(Case):
    def test_by_hand(self):
        for n, paper in ((2, TWO), (3, THREE), (5, FIVE), (7, SEVEN), (17, ("full", 3, ((2, 4, TWO),)))):
            self.assertIs(is_full(n, paper), True)
            for other in (1, 2, 3, 4, 5, 6, 7, 8, 9, 17, MOST):
                self.assertIs(is_full(other, paper), other == n, (other, paper))

    def test_each_base_of_small_numbers(self):
        for n in range(1, 120):
            rows = tuple((prime, often, made_full(prime)) for prime, often in plain_parts(n - 1)) if n > 1 else ()
            for base in range(-1, n + 2):
                paper = ("full", base, rows)
                self.assertIs(is_full(n, paper), reads(n, paper, FULL), (n, paper))

    def test_no_number_that_is_no_prime_has_one(self):
        for n in NO_PRIMES[1:]:
            rows = tuple((prime, often, made_full(prime)) for prime, often in plain_parts(n - 1))
            for base in (*range(1, min(n, 200)), n - 2, n - 1):
                self.assertIs(is_full(n, ("full", base, rows)), False)

    def test_rows_with_primes_that_are_none(self):
        # Of 9 the power 27 has the rest 1 by 28, and the power 1 has not: but 27 is no prime.
        for paper in (TWO, THREE, FIVE, made_full(13), ("full", 26, ((26, 1, TWO),)), None, ()):
            self.assertIs(is_full(28, ("full", 9, ((27, 1, paper),))), False)
            self.assertIs(is_full(9, ("full", 8, ((8, 1, paper),))), False)
            self.assertIs(is_full(5, ("full", 2, ((4, 1, paper),))), False)
            self.assertIs(is_full(7, ("full", 3, ((6, 1, paper),))), False)

    def test_other_papers_within(self):
        for n in (7, 11, 13, 29, 31, 43, 83):
            for maker in (made_share, made_mixed, made_other):
                rows = tuple(
                    (prime, often, TWO if prime == 2 else maker(prime)) for prime, often in plain_parts(n - 1)
                )
                paper = ("full", made_full(n)[1], rows)
                self.assertIs(is_full(n, paper), reads(n, paper, FULL))
            share = ("full", made_full(n)[1], made_share(n)[2])
            self.assertIs(is_full(n, share), False)
            self.assertIs(is_full(n, made_share(n)), False)
            self.assertIs(is_full(n, made_other(n)), False)

    def test_one_thing_otherwise(self):
        for n in (2, 3, 5, 7, 13, 31, 43, 83):
            self.read_alike(n, made_full(n), is_full, FULL)

    def test_one_thing_otherwise_far_within(self):
        self.read_alike(2027, made_full(2027), is_full, FULL)

    def test_rows_turned_about_left_out_put_in_and_twice(self):
        paper = made_full(211)
        rows = paper[2]
        self.assertIs(is_full(211, paper), True)
        self.assertEqual(len(rows), 4)
        for order in itertools.permutations(rows):
            self.assertIs(is_full(211, ("full", paper[1], order)), order == rows)
        for many in range(4):
            for some in itertools.combinations(rows, many):
                self.assertIs(is_full(211, ("full", paper[1], some)), False)
        self.assertIs(is_full(211, ("full", paper[1], rows + ((11, 1, made_full(11)),))), False)
        self.assertIs(is_full(211, ("full", paper[1], ((1, 1, TWO),) + rows)), False)
        self.assertIs(is_full(211, ("full", paper[1], rows + rows[-1:])), False)
        self.assertIs(is_full(5, ("full", 2, ((2, 1, TWO), (2, 1, TWO)))), False)

    def test_truths_are_no_numbers(self):
        self.assertIs(is_full(3, ("full", 2, ((2, True, TWO),))), False)
        self.assertIs(is_full(7, ("full", 3, ((2, True, TWO), (3, 1, THREE)))), False)
        self.assertIs(is_full(7, ("full", 3, ((2, 1, TWO), (3, 1, ("full", 2, ((2, True, TWO),)))))), False)

    def test_2_and_1(self):
        self.assertIs(is_full(2, TWO), True)
        for thing in (("full", 1, ()), ("full", 1, ((2, 0, TWO),)), ("full", 1, ((1, 1, TWO),)), ("full", 0, ())):
            self.assertIs(is_full(2, thing), False)
            self.assertIs(is_full(1, thing), False)
        self.assertIs(is_full(1, TWO), False)
        self.assertIs(is_full(1, ("full", 0, ((2, 1, TWO),))), False)

    def test_great_numbers(self):
        paper = made_full(GREATEST_PRIME)
        self.assertIs(is_full(GREATEST_PRIME, paper), True)
        for n in (MOST, MOST - 1, GREATEST_PRIME - 2, 2, 1):
            self.assertIs(is_full(n, paper), False)
        for n, parts in SMOOTH_PRIMES:
            rows = tuple((prime, often, made_full(prime)) for prime, often in parts)
            found = [base for base in range(1, 200) if is_full(n, ("full", base, rows))]
            self.assertEqual(found, [base for base in range(1, 200) if reads(n, ("full", base, rows))])
            self.assertTrue(found)
            for base in found[:2]:
                self.assertIs(is_full(n, ("full", base + n, rows)), False)
                self.assertIs(is_full(n, ("full", base - n, rows)), False)
                self.assertIs(is_full(n, ("full", n - 1, rows)), False)

    def test_great_numbers_with_one_thing_otherwise(self):
        for thing in itertools.islice(altered(made_full(GREATEST_PRIME)), 0, None, 7):
            self.assertIs(is_full(GREATEST_PRIME, thing), reads(GREATEST_PRIME, thing, FULL), thing)

    def test_things_that_are_none(self):
        for n in (1, 4, 6, 9, 11, 401, MOST - 1, MOST):
            for thing in no_papers():
                before = as_it_stands(thing)
                self.assertIs(is_full(n, thing), False)
                self.assertTrue(before == as_it_stands(thing))
            self.assertIs(is_full(n, nested("two", 5000)), False)

    def test_things_that_are_none_of_small_primes(self):
        for n in (2, 3, 5, 7):
            for thing in no_papers():
                self.assertIs(is_full(n, thing), False, n)

    def test_the_same_question_has_the_same_answer(self):
        rows = [(2, 1, TWO)]
        for _ in range(3):
            self.assertIs(is_full(3, ("full", 2, tuple(rows))), True)
            self.assertIs(is_full(3, ("full", 2, rows)), False)

    def test_wrong_numbers(self):
        for thing in wrong_numbers(1, MOST):
            self.refused(NoNumber, "n", is_full, thing, TWO)
            self.refused(NoNumber, "n", is_full, thing, None)


class FullPaper(Case):
    def test_by_hand(self):
        self.assertEqual(full_paper(2), TWO)
        self.assertEqual(full_paper(3), THREE)
        self.assertEqual(full_paper(5), FIVE)
        self.assertEqual(full_paper(7), SEVEN)
        self.assertEqual(full_paper(41), ("full", 6, ((2, 3, TWO), (5, 1, FIVE))))

    def test_of_all_numbers_to_some_thousand(self):
        primes = primes_to(5000)
        for n in range(1, 5001):
            paper = full_paper(n)
            if n in primes:
                self.assertIs(reads(n, paper, FULL), True, n)
                self.assertIs(is_full(n, paper), True, n)
            else:
                self.assertIsNone(paper, n)

    def test_the_bases_are_the_least(self):
        for n in primes_to(3000):
            self.assertEqual(full_paper(n), made_full(n))

    def test_great_primes_are_answered_quickly(self):
        for n in GREAT_PRIMES:
            paper = full_paper(n)
            self.assertEqual(paper, made_full(n))
            self.assertIs(is_full(n, paper), True)
            self.assertEqual(paper, full_paper(n))

    def test_no_primes(self):
        for n in NO_PRIMES:
            self.assertIsNone(full_paper(n))

    def test_wrong_things(self):
        for thing in wrong_numbers(1, MOST_TRIED):
            self.refused(NoNumber, "n", full_paper, thing)


class ManyFull(Case):
    def test_by_hand(self):
        for n, many in ((1, 0), (2, 1), (3, 1), (4, 0), (5, 2), (7, 2), (11, 8), (13, 4), (17, 8), (23, 80)):
            self.whole(many, many_full(n))

    def test_as_gone_through(self):
        for n in primes_to(46):
            papers = all_full(n)
            self.whole(len(papers), many_full(n))
            self.assertEqual(len(set(papers)), len(papers))
            for paper in papers:
                self.assertIs(is_full(n, paper), True)

    def test_of_no_prime_0(self):
        primes = primes_to(500)
        for n in range(1, 501):
            self.assertEqual(many_full(n) > 0, n in primes)
        for n in NO_PRIMES:
            self.whole(0, many_full(n))

    def test_great_primes_are_answered_quickly(self):
        # Of 999999936: 2 six times, 3 twice, 13, 83 and 1609; the same of these.
        of_13 = 4
        of_83 = 40 * (16 * 2)
        of_1609 = 4 * 2 * 66 * (20 * 8)
        self.whole(32 * 6 * 12 * 82 * 1608 * of_13 * of_83 * of_1609, many_full(999999937))
        for n in GREAT_PRIMES:
            self.whole(many_full(n), many_full(n))
            self.assertGreater(many_full(n), 10 ** 8)

    def test_wrong_things(self):
        for thing in wrong_numbers(1, MOST_TRIED):
            self.refused(NoNumber, "n", many_full, thing)


class SizesDepthsPrimes(Case):
    def told(self, n, paper, size, depth, primes):
        before = as_it_stands(paper)
        self.whole(size, full_size(n, paper))
        self.whole(depth, full_depth(n, paper))
        answer = full_primes(n, paper)
        self.assertIs(type(answer), tuple)
        self.assertTrue(all(type(prime) is int for prime in answer))
        self.assertEqual(answer, primes)
        self.assertTrue(before == as_it_stands(paper))

    def test_by_hand(self):
        self.told(2, TWO, 1, 1, (2,))
        self.told(3, THREE, 2, 2, (2, 3))
        self.told(5, FIVE, 2, 2, (2, 5))
        self.told(7, SEVEN, 4, 3, (2, 3, 7))
        self.told(7, ("full", 5, ((2, 1, TWO), (3, 1, THREE))), 4, 3, (2, 3, 7))
        # 31 has 2, 3 and 5; 43 has 2, 3 and 7; 71 has 2, 5 and 7; 47 has 2 and 23, that 2 and 11, that 2 and 5.
        self.told(31, made_full(31), 6, 3, (2, 3, 5, 31))
        self.told(43, made_full(43), 8, 4, (2, 3, 7, 43))
        self.told(71, made_full(71), 8, 4, (2, 3, 5, 7, 71))
        self.told(47, made_full(47), 8, 5, (2, 5, 11, 23, 47))
        self.told(65537, ("full", 3, ((2, 16, TWO),)), 2, 2, (2, 65537))

    def test_each_full_paper_of_a_prime_has_the_same(self):
        for paper in all_full(29):
            self.told(29, paper, 6, 4, (2, 3, 7, 29))

    def test_as_counted(self):
        def tuples(n, paper):
            rows = paper[2] if paper != TWO else ()
            inner = [tuples(prime, within) for prime, often, within in rows]
            size = 1 + sum(one[0] for one in inner)
            depth = 1 + max([one[1] for one in inner], default=0)
            return (size, depth, {n}.union(*[one[2] for one in inner]))

        for n in (*primes_to(1500), *GREAT_PRIMES):
            size, depth, primes = tuples(n, made_full(n))
            self.told(n, full_paper(n), size, depth, tuple(sorted(primes)))

    def test_great_numbers(self):
        rows = ((2, 26, TWO), (3, 45, THREE), (5, 1, FIVE))
        n = SMOOTH_PRIMES[2][0]
        base = next(base for base in range(1, 200) if is_full(n, ("full", base, rows)))
        self.told(n, ("full", base, rows), 6, 3, (2, 3, 5, n))
        paper = made_full(GREATEST_PRIME)
        self.assertEqual(full_depth(GREATEST_PRIME, paper), 13)
        self.assertEqual(full_primes(GREATEST_PRIME, paper)[-2:], (460691073465484103393819, GREATEST_PRIME))

    def test_what_is_no_full_paper_of_n_is_refused(self):
        for deed in (full_size, full_depth, full_primes):
            for n in (1, 2, 3, 4, 11, MOST):
                for thing in no_papers():
                    with self.assertRaises(NoPaper) as caught:
                        deed(n, thing)
                    self.assertIs(type(caught.exception), NoPaper)
            self.refused(NoPaper, "paper", deed, 5, THREE)
            self.refused(NoPaper, "paper", deed, 4, THREE)
            self.refused(NoPaper, "paper", deed, 1, TWO)
            self.refused(NoPaper, "paper", deed, 3, list(THREE))
            self.refused(NoPaper, "paper", deed, 3, ("full", 1, THREE[2]))
            self.refused(NoPaper, "paper", deed, 3, ("full", 2, ((2, True, TWO),)))
            self.refused(NoPaper, "paper", deed, 7, made_share(7))
            self.refused(NoPaper, "paper", deed, 7, made_other(7))
            self.refused(NoPaper, "paper", deed, 7, ("full", 3, ((2, 1, TWO), (3, 1, made_share(3)))))

    def test_one_thing_otherwise(self):
        for thing in altered(made_full(31)):
            for deed in (full_size, full_depth, full_primes):
                if reads(31, thing, FULL):
                    deed(31, thing)
                else:
                    self.refused(NoPaper, "paper", deed, 31, thing)

    def test_n_is_looked_at_ahead_of_the_paper(self):
        for deed in (full_size, full_depth, full_primes):
            for thing in wrong_numbers(1, MOST):
                for paper in (TWO, THREE, None, [], ("two", 1)):
                    self.refused(NoNumber, "n", deed, thing, paper)


if __name__ == "__main__":
    unittest.main()
