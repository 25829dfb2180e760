import re
import unittest

from primepapers.errors import NoNumber, NoPaper, NoText
from primepapers.full import full_paper
from primepapers.least import least_paper
from primepapers.made import made, prime_of
from primepapers.other import other_paper
from primepapers.share import share_paper
from primepapers.texts import paper_text, read_paper
from tests.helper import (
    GREATEST_PRIME, MOST, NO_WHOLE, Case, altered, as_it_stands, made_full, made_mixed, made_other, made_share, nested,
    no_papers, primes_to, reads, share_of, wrong_numbers, written,
)

TWO = ("two",)
THREE = ("full", 2, ((2, 1, TWO),))
NUMBER = "(?:0|[1-9][0-9]*)"
ROW = rf"{NUMBER}\^{NUMBER} (?:two|<[0-9]+>)"
PAPER = rf"(?:full {NUMBER}|share {NUMBER}|other {NUMBER} {NUMBER} {NUMBER}) \[{ROW}(?:; {ROW})*\]"
# Signs that may stand too much, or in the place of another; the last ones are figures to Python, but not here.
SIGNS = " ;^[],.()+-_*%#0123456789twofulshareTFSO\t\n\r\x00\"'\u00b2\u0663\uff12"


def thing_in(text):
    """What the text writes, papers being taken out of it from within; None where it is not so written."""
    taken = []
    found = re.search(PAPER, text)
    while found:
        taken.append(found.group(0))
        text = f"{text[:found.start()]}<{len(taken) - 1}>{text[found.end():]}"
        found = re.search(PAPER, text)
    return built(text, taken) if re.fullmatch("two|<[0-9]+>", text) else None


def built(text, taken):
    if text == "two":
        return TWO
    head, rows = taken[int(text[1:-1])][:-1].split(" [")
    word, *numbers = head.split(" ")
    numbers = [int(number) for number in numbers]
    found = []
    for row in rows.split("; "):
        power, inner = row.split(" ")
        prime, often = power.split("^")
        found.append((int(prime), int(often), built(inner, taken)))
    if word == "other":
        return (word, numbers[0], tuple(numbers[1:]), tuple(found))
    return (word, *numbers, tuple(found))


def some_papers(n):
    papers = [full_paper(n), least_paper(n), made_full(n), made_mixed(n), made_share(n)]
    if n > 2:
        papers += [share_paper(n), other_paper(n), made_other(n), made_other(n, made_mixed)]
    return papers


def chain(most):
    """A prime up to most, and its paper, made one of another, each of the least k."""
    q, paper = 3, THREE
    while 2 * q + 1 < most and q <= 10 ** 15:
        k = next(k for k in range(1, (q + 1) // 2) if made(q, paper, k) is not None)
        q, paper = 2 * k * q + 1, made(q, paper, k)
    return q, paper


class PaperText(Case):
    def test_by_hand(self):
        for n, paper, text in (
            (2, TWO, "two"),
            (3, THREE, "full 2 [2^1 two]"),
            (17, ("full", 3, ((2, 4, TWO),)), "full 3 [2^4 two]"),
            (7, ("full", 3, ((2, 1, TWO), (3, 1, THREE))), "full 3 [2^1 two; 3^1 full 2 [2^1 two]]"),
            (7, ("share", 2, ((3, 1, THREE),)), "share 2 [3^1 full 2 [2^1 two]]"),
            (3, ("other", 2, (0, 1), ((2, 2, TWO),)), "other 2 0 1 [2^2 two]"),
            (5, ("other", 2, (3, 2), ((2, 1, TWO), (3, 1, THREE))), "other 2 3 2 [2^1 two; 3^1 full 2 [2^1 two]]"),
        ):
            before = as_it_stands(paper)
            answer = paper_text(n, paper)
            self.assertIs(type(answer), str)
            self.assertEqual(answer, text)
            self.assertEqual(read_paper(n, text), paper)
            self.assertTrue(before == as_it_stands(paper))

    def test_of_all_kinds_and_read_to_the_same(self):
        for n in primes_to(400):
            for paper in some_papers(n):
                text = paper_text(n, paper)
                self.assertEqual(text, written(paper))
                self.assertTrue(as_it_stands(read_paper(n, text)) == as_it_stands(paper))

    def test_great_numbers(self):
        for paper in (made_full(GREATEST_PRIME), made_other(GREATEST_PRIME)):
            text = paper_text(GREATEST_PRIME, paper)
            self.assertEqual(text, written(paper))
            self.assertEqual(read_paper(GREATEST_PRIME, text), paper)
        for figures in range(1, 31):
            n, paper = prime_of(figures)
            self.assertEqual(paper_text(n, paper), written(paper))
            self.assertEqual(read_paper(n, written(paper)), paper)

    def test_papers_made_one_of_another(self):
        for most in (100, 10 ** 6, 10 ** 15, MOST):
            n, paper = chain(most)
            self.assertEqual(paper_text(n, paper), written(paper))
            self.assertEqual(read_paper(n, written(paper)), paper)

    def test_what_is_no_paper_of_n_is_refused(self):
        for n in (1, 2, 3, 4, 11, MOST):
            for thing in no_papers():
                self.refused(NoPaper, "paper", paper_text, n, thing)
        self.refused_so(NoPaper, paper_text, 3, nested("two", 5000))
        for n, thing in (
            (5, THREE), (4, THREE), (1, TWO), (3, list(THREE)), (3, "full 2 [2^1 two]"), (2, "two"),
            (3, ("full", 2, ((2, True, TWO),))), (3, ("full", 1, THREE[2])),
        ):
            self.refused(NoPaper, "paper", paper_text, n, thing)
        for thing in altered(made_mixed(23)):
            if reads(23, thing):
                self.assertEqual(paper_text(23, thing), written(thing))
            else:
                self.refused(NoPaper, "paper", paper_text, 23, thing)

    def test_n_is_looked_at_ahead_of_the_paper(self):
        for thing in wrong_numbers(1, MOST):
            for paper in (TWO, THREE, None, [], ("two", 1)):
                self.refused(NoNumber, "n", paper_text, thing, paper)


class ReadPaper(Case):
    def read_as_told(self, n, text):
        """The text is read just where it is so written of a paper of n."""
        self.assertNotIn("<", text)
        thing = thing_in(text)
        if thing is not None and reads(n, thing):
            self.assertEqual(written(thing), text)
            self.assertTrue(as_it_stands(read_paper(n, text)) == as_it_stands(thing), text)
            return True
        self.refused(NoText, "text", read_paper, n, text)
        return False

    def test_the_tests_own_reading(self):
        for n in primes_to(100):
            for paper in some_papers(n):
                self.assertEqual(thing_in(written(paper)), paper)
                self.assertIs(self.read_as_told(n, written(paper)), True)

    def test_one_sign_otherwise_more_or_less(self):
        for n, paper in (
            (2, TWO), (3, THREE), (17, full_paper(17)), (7, share_paper(7)), (5, other_paper(5)), (7, made_full(7)),
            (31, made_share(31)), (29, made_other(29, made_mixed)), (83, made_mixed(83)), (101, least_paper(101)),
        ):
            text = written(paper)
            many = 0
            for at in range(len(text) + 1):
                many += self.read_as_told(n, text[:at] + text[at + 1:]) and text[:at] + text[at + 1:] != text
                for sign in SIGNS:
                    for other in (text[:at] + sign + text[at:], text[:at] + sign + text[at + 1:]):
                        many += self.read_as_told(n, other) and other != text
            # Other bases go, too, in some places; but they are few.
            self.assertLess(many, 60)

    def test_two_signs_turned_and_parts_left_out(self):
        for n, paper in ((7, made_full(7)), (5, other_paper(5)), (31, made_share(31))):
            text = written(paper)
            for at in range(len(text) - 1):
                self.read_as_told(n, text[:at] + text[at + 1] + text[at] + text[at + 2:])
                for end in range(at, len(text) + 1):
                    self.read_as_told(n, text[:at] + text[end:])
                    self.read_as_told(n, text[at:end])

    def test_by_hand(self):
        good = "full 3 [2^1 two; 3^1 full 2 [2^1 two]]"
        self.assertEqual(read_paper(7, good), made_full(7))
        for text in (
            "", " ", "two", "full", "full 3", "full 3 ", "full 3 []", "full 3 [ ]", f" {good}", f"{good} ", f"{good}\n",
            f"\t{good}", f"[{good}]", f"({good})", f"{good}; {good}", f"{good}]", good[:-1], good.upper(), good.title(),
            good.replace("; ", ";"), good.replace("; ", ";  "), good.replace("; ", " ; "), good.replace("; ", ", "),
            good.replace(" ", "  "), good.replace(" ", "\t"), good.replace("; ", ";\n"), good.replace("^", "**"),
            good.replace("^1", ""), good.replace("2^1", "2"), good.replace("3", "03"), good.replace("3", "+3"),
            good.replace("3", "-3"), good.replace("3", "3.0"), good.replace("3", "\uff13"), good.replace("^1", "^01"),
            good.replace("^1", "^+1"), good.replace("3", "1_0"), good.replace("[", "[["), good.replace("]", "]]"),
            good.replace("[", ""), good.replace("]", ""), good.replace("full", "Full"), good.replace("full", "fulls"),
            good.replace("full", "two"), good.replace("two", "one"), good.replace("two", "two two"), good + good,
            "full 3 [3^1 full 2 [2^1 two]; 2^1 two]", "full 3 [2^1 two; 2^1 two; 3^1 full 2 [2^1 two]]",
            "full 3 [2^1 two; ]", "full 3 [; 2^1 two]", "full 3 [2^1 two;]", "full [2^1 two]", "full 3 3 [2^1 two]",
            "other 3 [2^3 two]", "other 3 2 [2^3 two]", "other 3 2 1 1 [2^3 two]", "share 2 1 [3^1 full 2 [2^1 two]]",
            "('full', 3, ((2, 1, ('two',)), (3, 1, ('full', 2, ((2, 1, ('two',)),)))))", "7 " + good,
        ):
            self.refused(NoText, "text", read_paper, 7, text)

    def test_the_text_of_another_number(self):
        primes = primes_to(60)
        for n in range(1, 61):
            for prime in primes:
                for paper in some_papers(prime):
                    self.assertTrue(self.read_as_told(n, written(paper)) or n != prime)
        # By 4, and 2 as the base, the same share paper goes of 5 and of 13.
        self.assertEqual(read_paper(5, "share 2 [2^2 two]"), read_paper(13, "share 2 [2^2 two]"))

    def test_bases_and_pairs_that_are_none(self):
        for n in (3, 5, 7, 13, 17):
            for base in range(n + 2):
                for word in ("full", "share"):
                    self.read_as_told(n, written((word, base, made_full(n)[2])))
            for x in range(n + 1):
                for y in range(n + 1):
                    self.read_as_told(n, written(("other", made_other(n)[1], (x, y), made_other(n)[3])))

    def test_great_numbers_and_many_figures(self):
        paper = made_full(GREATEST_PRIME)
        text = written(paper)
        for other in (
            text.replace("full ", f"full {GREATEST_PRIME}", 1), text.replace("full ", f"full {10 ** 100}", 1),
            text.replace("^1 ", f"^{10 ** 59} ", 1), text.replace("^1 ", "^" + "1" * 1000 + " ", 1),
            "full " + "9" * 5000 + " [2^1 two]", "full 2 [" + "9" * 5000 + "^1 two]", "other " + "9" * 5000,
            "share 2 [" + "7" * 1900 + "^1 two]", "other 1 1 " + "0" * 1900, "9" * 2000, "full 0" + text[6:],
        ):
            self.refused(NoText, "text", read_paper, GREATEST_PRIME, other)
        great = share_of(GREATEST_PRIME, ((460691073465484103393819, 1, made_full(460691073465484103393819)),))
        shifted = ("share", great[1] + GREATEST_PRIME, great[2])
        self.assertEqual(read_paper(GREATEST_PRIME, written(great)), great)
        self.refused(NoText, "text", read_paper, GREATEST_PRIME, written(shifted))

    def test_texts_within_one_another(self):
        for often in (1, 2, 10, 100, 160, 5000):
            for begin in ("full 2 [2^1 ", "share 2 [2^1 ", "other 2 0 1 [2^2 ", "full 2 [2^1 two; 3^1 ", "["):
                for end in ("two" + "]" * often, "two", "", "]" * often, "two" + "]" * (often + 1)):
                    text = begin * often + end
                    if (often, begin, end) in ((1, "full 2 [2^1 ", "two]"), (1, "share 2 [2^1 ", "two]"),
                                               (1, "other 2 0 1 [2^2 ", "two]")):
                        self.assertIs(reads(3, read_paper(3, text)), True)
                    else:
                        self.refused(NoText, "text", read_paper, 3, text)

    def test_what_is_no_text(self):
        for n in (1, 2, 3, 7, MOST):
            for thing in (*NO_WHOLE, TWO, THREE, ["two"], {"two": 2}, b"two", 2, 0, -1, 10 ** 59, nested("two", 60)):
                if type(thing) is not str:
                    self.refused(NoText, "text", read_paper, n, thing)
            self.refused_so(NoText, read_paper, n, nested("two", 5000))
        for thing in no_papers():
            if thing != "two":
                self.refused(NoText, "text", read_paper, 2, thing)

    def test_n_is_looked_at_ahead_of_the_text(self):
        for thing in wrong_numbers(1, MOST):
            for text in ("two", "", "full 2 [2^1 two]", "no", None, [], 7, TWO):
                self.refused(NoNumber, "n", read_paper, thing, text)


if __name__ == "__main__":
    unittest.main()
