import random
import string
import unittest

from primepapers.desk import Desk
from primepapers.errors import NoDeed, NoLine, NoName, NoNumber, NoPrime, NoText, PrimeError
from primepapers.full import full_paper
from primepapers.looks import by_halves, by_powers
from primepapers.made import made, prime_of
from primepapers.signs import by_signs
from primepapers.texts import paper_text, read_paper
from tests.helper import (
    GREATEST_PRIME, MOST, NO_WHOLE, Case, as_it_stands, made_full, made_mixed, made_other, made_share, nested,
    no_papers, primes_to, written,
)

SEVEN = "full 3 [2^1 two; 3^1 full 2 [2^1 two]]"
ELEVEN = "full 2 [2^1 two; 5^1 full 2 [2^2 two]]"
NINES = "9" * 30


def said(desk, line):
    """The answer, or the class of the refusal."""
    try:
        return desk.say(line)
    except PrimeError as error:
        return type(error)


def asked(desk):
    """All questions' answers."""
    lines = ["names", "look 2047 2", "look 341 2", "look 8 2"]
    lines += [f"{word} {name}" for word in ("show", "size") for name in string.ascii_lowercase]
    return [said(desk, line) for line in lines]


def told(*lines):
    desk = Desk()
    for line in lines:
        assert desk.say(line) == "ok", line
    return desk


class DeskCase(Case):
    def answers(self, desk, line, expected):
        answer = desk.say(line)
        self.assertIs(type(answer), str)
        self.assertEqual(answer, expected, line)

    def refuses(self, desk, kind, line):
        """The desk refuses the line with just this class, and answers all as ahead of it."""
        before = asked(desk)
        self.refused_so(kind, desk.say, line)
        self.assertEqual(before, asked(desk))


class Answers(DeskCase):
    def test_a_score_of_lines(self):
        desk = Desk()
        for line, answer in (
            ("names", "none"),
            ("keep a 17 full 3 [2^4 two]", "ok"),
            ("names", "a"),
            ("show a", "17 full 3 [2^4 two]"),
            ("size a", "2"),
            ("find z 7", "ok"),
            ("names", "a z"),
            ("show z", f"7 {SEVEN}"),
            ("size z", "4"),
            ("find m 2", "ok"),
            ("names", "a m z"),
            ("show m", "2 two"),
            ("size m", "1"),
            ("grow z 3 b", "ok"),
            ("names", "a b m z"),
            ("show b", f"43 share 2 [7^1 {SEVEN}]"),
            ("size b", "5"),
            ("grow b 1 b", NoPrime),
            ("grow b 2 b", "ok"),
            ("show b", f"173 share 2 [43^1 share 2 [7^1 {SEVEN}]]"),
            ("size b", "6"),
            ("drop a", "ok"),
            ("names", "b m z"),
            ("show a", NoName),
            ("back", "ok"),
            ("show a", "17 full 3 [2^4 two]"),
            ("back", "ok"),
            ("show b", f"43 share 2 [7^1 {SEVEN}]"),
            ("keep b 3 other 2 0 1 [2^2 two]", "ok"),
            ("show b", "3 other 2 0 1 [2^2 two]"),
            ("size b", "2"),
            ("keep b 7 share 2 [3^1 full 2 [2^1 two]]", "ok"),
            ("show b", "7 share 2 [3^1 full 2 [2^1 two]]"),
            ("size b", "3"),
            ("look 561 2", "signs"),
            ("look 341 2", "powers"),
            ("look 2047 2", "halves"),
            ("look 341 3", "no"),
            ("look 9 8", "halves"),
            ("names", "a b m z"),
        ):
            if isinstance(answer, str):
                self.answers(desk, line, answer)
            else:
                self.refuses(desk, answer, line)

    def test_back_behind_each_deed(self):
        desk = Desk()
        deeds = (
            "find a 7", "find b 11", "grow a 2 c", "drop a", "find a 13", "find a 17", "grow b 1 b", "drop c", "drop b",
            f"keep z 7 {SEVEN}", "grow z 3 z", "grow z 2 z", "keep z 2 two", "find z 2", "drop z", "find c 999999937",
        )
        states = []
        for deed in deeds:
            states.append(asked(desk))
            self.answers(desk, deed, "ok")
            self.assertNotEqual(asked(desk), states[-1] if deed != "find z 2" else None)
            # Undone and told again, it is as it was.
            after = asked(desk)
            self.answers(desk, "back", "ok")
            self.assertEqual(asked(desk), states[-1])
            self.answers(desk, deed, "ok")
            self.assertEqual(asked(desk), after)
        for state in states[::-1]:
            self.answers(desk, "back", "ok")
            self.assertEqual(asked(desk), state)
        for _ in range(3):
            self.refuses(desk, NoDeed, "back")
        self.answers(desk, "names", "none")
        self.answers(desk, "find q 5", "ok")
        self.answers(desk, "back", "ok")
        self.refuses(desk, NoDeed, "back")

    def test_questions_and_refusals_are_no_deeds(self):
        desk = told("find a 7", "find b 11")
        for line in ("names", "show a", "size b", "look 9 2"):
            said(desk, line)
        for line in ("find a 9", "keep a 9 two", "drop c", "grow a 1 a", "no", "look 8 2", "show c", "back b"):
            self.assertTrue(issubclass(said(desk, line), PrimeError))
        self.answers(desk, "back", "ok")
        self.answers(desk, "names", "a")
        self.answers(desk, "back", "ok")
        self.refuses(desk, NoDeed, "back")

    def test_an_elder_prime_of_a_name(self):
        desk = told("find a 7", "find a 11", "drop a", "find a 13")
        self.answers(desk, "show a", f"13 {written(full_paper(13))}")
        self.answers(desk, "back", "ok")
        self.refuses(desk, NoName, "show a")
        self.answers(desk, "back", "ok")
        self.answers(desk, "show a", f"11 {ELEVEN}")
        self.answers(desk, "back", "ok")
        self.answers(desk, "show a", f"7 {SEVEN}")
        self.answers(desk, "drop a", "ok")
        self.refuses(desk, NoName, "drop a")
        self.answers(desk, "names", "none")
        self.answers(desk, "back", "ok")
        self.answers(desk, "names", "a")
        self.answers(desk, "back", "ok")
        self.answers(desk, "names", "none")
        self.refuses(desk, NoDeed, "back")

    def test_the_same_kept_again_is_a_deed(self):
        desk = told("find a 7", "find a 7", f"keep a 7 {SEVEN}")
        for _ in range(3):
            self.answers(desk, "names", "a")
            self.answers(desk, "back", "ok")
        self.answers(desk, "names", "none")

    def test_all_names(self):
        desk = Desk()
        for name in string.ascii_lowercase[::-1]:
            self.answers(desk, f"find {name} 3", "ok")
        self.answers(desk, "names", " ".join(string.ascii_lowercase))
        for name in string.ascii_lowercase:
            self.answers(desk, f"drop {name}", "ok")
        self.answers(desk, "names", "none")
        for _ in range(52):
            self.answers(desk, "back", "ok")
        self.refuses(desk, NoDeed, "back")

    def test_two_desks_have_nothing_in_common(self):
        one, other = Desk(), Desk()
        self.answers(one, "find a 7", "ok")
        self.answers(other, "names", "none")
        self.refuses(other, NoDeed, "back")
        self.answers(other, "find a 11", "ok")
        self.answers(one, "show a", f"7 {SEVEN}")
        self.answers(one, "back", "ok")
        self.answers(other, "show a", f"11 {ELEVEN}")
        self.answers(Desk(), "names", "none")

    def test_answers_hang_on_the_deeds_that_stand_alone(self):
        chance = random.Random(17)
        lines = [f"find {name} {k}" for name in "abcz" for k in (2, 3, 4, 5, 7, 9, 11, 13, 31, 10 ** 9 + 7)]
        lines += [f"grow {one} {k} {other}" for one in "abcz" for k in (0, 1, 2, 3, 6) for other in "abz"] * 2
        lines += [f"drop {name}" for name in "abczy"] * 2
        lines += [f"keep {name} {n} {text}" for name in "acz" for n in (2, 7) for text in ("two", SEVEN, "", " two")]
        lines += ["back"] * 30 + ["names", "show a", "look 9 2", "back a", "keep", "no"]
        for _ in range(25):
            desk, standing = Desk(), []
            for line in chance.choices(lines, k=60):
                answer = said(desk, line)
                if answer == "ok" and line == "back":
                    standing.pop()
                elif answer == "ok":
                    standing.append(line)
                elif line == "back":
                    self.assertIs(answer, NoDeed)
                    self.assertEqual(standing, [])
            self.assertEqual(asked(desk), asked(told(*standing)))
            for _ in standing:
                self.answers(desk, "back", "ok")
            self.refuses(desk, NoDeed, "back")


class Deeds(DeskCase):
    def test_keep_papers_of_all_kinds(self):
        for n in primes_to(200):
            papers = [made_full(n), made_mixed(n), made_share(n)] + ([made_other(n)] if n > 2 else [])
            for paper in papers:
                desk = told(f"keep k {n} {written(paper)}")
                self.answers(desk, "show k", f"{n} {written(paper)}")

    def test_find_tells_the_full_paper(self):
        for n in (*primes_to(500), 999999937, 999999929):
            self.answers(told(f"find f {n}"), "show f", f"{n} {written(full_paper(n))}")

    def test_grow_as_it_is_made(self):
        for q in primes_to(80):
            desk = told(f"find q {q}")
            for k in range((q + 3) // 2 + 2):
                n = 2 * k * q + 1
                if not 1 <= k < q / 2:
                    self.refuses(desk, NoNumber, f"grow q {k} n")
                elif made(q, full_paper(q), k) is None:
                    self.refuses(desk, NoPrime, f"grow q {k} n")
                else:
                    self.answers(desk, f"grow q {k} n", "ok")
                    self.answers(desk, "show n", f"{n} {written(made(q, full_paper(q), k))}")
                    self.answers(desk, "show q", f"{q} {written(full_paper(q))}")
                    self.answers(desk, "back", "ok")

    def test_grown_one_of_another(self):
        desk = told("find a 3")
        q, paper, size = 3, full_paper(3), 2
        while q <= 10 ** 15:
            k = next(k for k in range(1, (q + 1) // 2) if made(q, paper, k) is not None)
            self.answers(desk, f"grow a {k} a", "ok")
            q, paper, size = 2 * k * q + 1, made(q, paper, k), size + 1
            self.answers(desk, "show a", f"{q} {written(paper)}")
            self.answers(desk, "size a", str(size))
        self.refuses(desk, NoNumber, "grow a 1 b")
        self.answers(desk, f"keep b {desk.say('show a')}", "ok")
        self.assertEqual(desk.say("show a"), desk.say("show b"))
        for _ in range(size - 1):
            self.answers(desk, "back", "ok")
        self.answers(desk, "show a", "3 full 2 [2^1 two]")

    def test_the_greatest_numbers(self):
        text = paper_text(GREATEST_PRIME, made_full(GREATEST_PRIME))
        desk = told(f"keep g {GREATEST_PRIME} {text}")
        self.answers(desk, "show g", f"{GREATEST_PRIME} {text}")
        self.refuses(desk, NoNumber, "grow g 1 h")
        self.refuses(desk, NoText, f"keep h {NINES} {text}")
        self.refuses(desk, NoNumber, f"find h {GREATEST_PRIME}")
        self.refuses(desk, NoNumber, f"grow g {NINES} h")
        self.refuses(desk, NoLine, f"keep h {MOST} {text}")
        n, paper = prime_of(30)
        self.answers(desk, f"keep p {n} {written(paper)}", "ok")
        self.assertEqual(read_paper(n, desk.say("show p").split(" ", 1)[1]), paper)

    def test_what_is_looked_at_first(self):
        desk = told("find a 7", f"keep g {prime_of(16)[0]} {written(prime_of(16)[1])}")
        for kind, line in (
            (NoNumber, "keep b 0 "), (NoNumber, "keep b 0 two"), (NoNumber, "keep b 0 no"),
            (NoText, "keep b 1 two"), (NoText, "keep b 2 "), (NoText, "keep b 2  two"), (NoText, "keep b 2 two "),
            (NoText, "keep b 2 2^1 two"), (NoText, "keep b 3 two"), (NoText, "keep b 4 two"),
            (NoText, "keep b 7 two two"),
            (NoText, f"keep b 7 {SEVEN}\n"), (NoText, f"keep b 11 {SEVEN}"), (NoText, f"keep b {NINES} two"),
            (NoText, "keep a 7 full 03 [2^1 two; 3^1 full 2 [2^1 two]]"), (NoText, "keep a 7 TWO"),
            (NoNumber, "find b 0"), (NoNumber, "find b 1000000001"), (NoNumber, f"find b {NINES}"),
            (NoNumber, "find b 1000000007"), (NoPrime, "find b 1"), (NoPrime, "find b 4"), (NoPrime, "find b 561"),
            (NoPrime, "find b 1000000000"), (NoNumber, "grow a 0 b"), (NoNumber, "grow a 4 b"),
            (NoNumber, f"grow a {NINES} b"), (NoPrime, "grow a 1 b"), (NoNumber, "grow g 1 b"),
            (NoNumber, "grow g 0 b"),
            (NoName, "grow b 0 c"), (NoName, "grow b 1 a"), (NoName, "grow c 1 c"), (NoName, f"grow b {NINES} b"),
            (NoName, "drop b"), (NoName, "show b"), (NoName, "size z"), (NoLine, "grow b 01 c"), (NoLine, "grow b 1 C"),
            (NoLine, "grow b x c"), (NoLine, "drop b c"), (NoLine, "show b b"), (NoLine, "keep b 00 no"),
            (NoLine, "keep B 0 no"), (NoLine, "find b 04"), (NoLine, f"find b {MOST}"), (NoLine, f"grow b {MOST} c"),
            (NoLine, "look 8 02"), (NoLine, f"look 0 {MOST}"), (NoLine, "back 1"),
        ):
            self.refuses(desk, kind, line)


class Looks(DeskCase):
    def test_as_the_looks_tell(self):
        desk = Desk()
        words = set()
        for n in (*range(3, 120, 2), 341, 561, 1105, 1729, 2047, GREATEST_PRIME, MOST - 1):
            for base in (*range(1, min(n, 30)), n - 2, n - 1):
                looks = (by_halves(n, base), by_signs(n, base), by_powers(n, base))
                expected = next((word for word, lets in zip(("halves", "signs", "powers"), looks) if lets), "no")
                self.answers(desk, f"look {n} {base}", expected)
                words.add(expected)
        self.assertEqual(words, {"halves", "signs", "powers", "no"})

    def test_by_hand(self):
        desk = Desk()
        for line, answer in (
            ("look 3 1", "halves"), ("look 3 2", "halves"), ("look 9 2", "no"), ("look 15 4", "powers"),
            ("look 561 50", "halves"), ("look 1105 2", "signs"), (f"look {GREATEST_PRIME} 2", "halves"),
            (f"look {NINES} 1", "halves"), (f"look {NINES} 2", "no"),
        ):
            self.answers(desk, line, answer)

    def test_wrong_numbers(self):
        desk = Desk()
        for line in (
            "look 0 0", "look 0 1", "look 1 1", "look 2 1", "look 4 3", "look 9 0", "look 9 9", "look 9 10", "look 1 0",
            f"look 9 {NINES}", f"look {NINES} {NINES}", f"look {NINES[:-1]}8 1", f"look {NINES} 0", "look 8 9",
        ):
            self.refuses(desk, NoNumber, line)


class NoLines(DeskCase):
    def test_what_is_no_text(self):
        desk = told("find a 7")
        for thing in (*NO_WHOLE, *no_papers(), b"names", ["names"], ("names",), {"names": 1}):
            if not isinstance(thing, str):
                before = as_it_stands(thing)
                self.refuses(desk, NoLine, thing)
                self.assertTrue(before == as_it_stands(thing))
        self.refuses(desk, NoLine, nested("names", 5000))

    def test_other_words(self):
        desk = told("find a 7")
        for line in (
            "", " ", "  ", "\n", "\t", "a", "7", "name", "namess", "Names", "NAMES", "none", "ok", "look",
            "names names",
            "undo", "help", "keep", "find", "grow", "drop", "show", "size", "find a 7; names", "names;", "names\n",
            "names ", " names", "\tnames", "names\t", "names a", "back ", " back", "back back", "back a", "backs",
            "BACK", "back\n", "two", "full", "kept a", "show  a", "show a ", " show a", "show\ta", "show a\n",
            "say names", "two " * 400, "names " * 300,
        ):
            self.refuses(desk, NoLine, line)

    def test_words_too_few_too_many_and_blanks(self):
        desk = told("find a 7", "find b 11")
        for line in (f"keep c 7 {SEVEN}", "find c 7", "grow a 2 c", "drop a", "back", "names", "show a", "size a",
                     "look 9 2"):
            self.assertIsInstance(said(told("find a 7", "find b 11"), line), str, line)
            words = line.split(" ") if not line.startswith("keep") else line.split(" ", 3)[:3]
            if line.startswith("keep"):
                tail = line[len(" ".join(words)):]
                others = [" ".join(words), "".join(words) + tail, line[1:], line.upper()]
            else:
                tail = ""
                others = [line + " a", line + " 7", line + " names", line + " "]
            others += [" " + line, line.replace(" ", "  ", 1), line.replace(" ", "\t"), line.replace(" ", "\n", 1)]
            for at in range(len(words)):
                others.append(" ".join(words[:at] + words[at + 1:]) + tail)
                others.append(" ".join(words[:at] + [words[at].upper()] + words[at + 1:]) + tail)
                others.append(" ".join(words[:at] + ["0" + words[at]] + words[at + 1:]) + tail)
                others.append(" ".join(words[:at] + [""] + words[at:]) + tail)
                others.append(" ".join(words[:at] + [words[at] + "a"] + words[at + 1:]) + tail)
                others.append(" ".join(words[:at] + ["-" + words[at]] + words[at + 1:]) + tail)
            for other in others:
                if other != line:
                    self.refuses(desk, NoLine, other)

    def test_names_that_are_none(self):
        desk = told("find a 7")
        for name in ("", "A", "Z", "aa", "ab", "1", "_", "`", "{", "\u00e4", "\u0430", "a\n", "\ta", "a;", "'a'", "no"):
            for line in (f"keep {name} 2 two", f"find {name} 2", f"grow {name} 1 a", f"grow a 2 {name}",
                         f"drop {name}", f"show {name}", f"size {name}"):
                self.refuses(desk, NoLine, line)

    def test_numbers_that_are_none_so_written(self):
        desk = told("find a 7")
        for number in (
            "", "00", "01", "007", "+1", "-1", "-0", "1.0", "1e3", "0x7", "1_0", "1,0", "7a", "a", "\uff17", "\u0667",
            "\u00b2", "7\n", "\t7", "1" * 31, "0" * 30, "0" + "9" * 29, str(MOST), "9" * 1900, "9" * 5000, "True",
        ):
            for line in (f"keep b {number} two", f"find b {number}", f"grow a {number} b", f"look {number} 2",
                         f"look 7 {number}", f"look {number} {number}"):
                self.refuses(desk, NoLine, line)

    def test_keep_has_a_blank_and_any_text_behind_its_number(self):
        desk = Desk()
        self.refuses(desk, NoLine, "keep a 2")
        self.refuses(desk, NoText, "keep a 2 ")
        self.refuses(desk, NoText, "keep a 2  ")
        self.refuses(desk, NoLine, "keep a 2two")
        self.refuses(desk, NoLine, "keep a 2\ntwo")
        self.refuses(desk, NoLine, "keep a  2 two")
        self.refuses(desk, NoText, "keep a 2 keep a 2 two")
        self.refuses(desk, NoText, "keep a 2 " + "two " * 400)
        self.refuses(desk, NoText, "keep a 2 two\n")
        self.refuses(desk, NoText, "keep a 3 " + "full 2 [2^1 " * 150)
        self.answers(desk, "keep a 2 two", "ok")


if __name__ == "__main__":
    unittest.main()
