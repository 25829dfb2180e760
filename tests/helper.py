"""What the tests have in common: wrong things, a limit of time, looks at refusals, and papers read and made by hand.

Nothing here asks the program: papers are read, made and written as the document's words say it.
"""

import itertools
import math
import signal
import unittest

MOST = 10 ** 30
MOST_TRIED = 10 ** 9
WORDS = ("two", "full", "share", "other")

# Each test takes far less than this where it is reckoned as the document asks.
SECONDS = 20

NO_WHOLE = (
    True, False, None, "", "1", "two", b"1", 1.0, [], [1], [1, 2], (), (1,), (1, 2), {}, {1: 1}, {"n": 7},
    {1}, object(), int, len,
)

GREATEST_PRIME = MOST - 11
# The primes above 10 ** 10 that stand in papers of the greatest prime: of it, one less, one more, and so on.
GREAT_PRIMES = (
    GREATEST_PRIME, 460691073465484103393819, 5618183822749806138949, 455873403338997577, 612733069004029,
    14618118833, 77843839397,
)


def wrong_numbers(least, most):
    """Things of every kind that are no whole number from least to most."""
    return NO_WHOLE + (least - 1, most + 1, least - 10 ** 40, most + 10 ** 40, 10 ** 6000, -(10 ** 6000))


def wrong_odds(least, most):
    """Things of every kind that are no odd number from least to most."""
    return wrong_numbers(least, most) + (0, 2, 4, 10, 100, 10 ** 6, 10 ** 9, MOST, least + 1, most - most % 2)


def too_late(number, frame):
    raise AssertionError(f"not answered within {SECONDS} seconds")


def as_it_stands(thing):
    """The thing with all lists, tuples and dicts within it, as it is now."""
    if isinstance(thing, dict):
        return (dict, [(key, as_it_stands(thing[key])) for key in thing])
    if isinstance(thing, (list, tuple)):
        return (type(thing), [as_it_stands(part) for part in thing])
    return (type(thing), thing)


class Case(unittest.TestCase):
    def setUp(self):
        # What is reckoned in a slow way fails, and does not hang.
        before = signal.signal(signal.SIGALRM, too_late)
        self.addCleanup(signal.signal, signal.SIGALRM, before)
        self.addCleanup(signal.alarm, 0)
        signal.alarm(SECONDS)

    def refused(self, kind, name, deed, *things):
        """The deed refuses the things with just this class, for the one of this name, and changes none of them."""
        before = as_it_stands(things)
        with self.assertRaises(kind) as caught:
            deed(*things)
        self.assertIs(type(caught.exception), kind)
        self.assertEqual(str(caught.exception).split()[0], name)
        self.assertTrue(before == as_it_stands(things))

    def refused_so(self, kind, deed, *things):
        """The deed refuses the things with just this class; they may be too deep to be looked at here."""
        with self.assertRaises(kind) as caught:
            deed(*things)
        self.assertIs(type(caught.exception), kind)

    def whole(self, expected, answer):
        self.assertIs(type(answer), int)
        self.assertEqual(answer, expected)

    def read_alike(self, n, paper, look, words):
        """The look tells of the paper, and of it with one thing otherwise, what the document's words tell."""
        many = 0
        for thing in altered(paper):
            expected = reads(n, thing, words)
            self.assertIs(look(n, thing), expected, (n, thing))
            many += not expected
        self.assertGreater(many, 20)


def primes_to(most):
    return [number for number in range(2, most + 1) if all(number % k for k in range(2, math.isqrt(number) + 1))]


def plain_parts(number):
    """The parts, by trying; great primes must be known ones."""
    found = []
    left = number
    for prime in itertools.chain(range(2, 10 ** 5), sorted(GREAT_PRIMES)):
        if prime * prime > left and left < 10 ** 10:
            break
        often = 0
        while left % prime == 0:
            left //= prime
            often += 1
        if often:
            found.append((prime, often))
    if left > 1:
        assert left < 10 ** 10, left
        found.append((left, 1))
    return found


def pair_times(one, other, d, n):
    return ((one[0] * other[0] + d * one[1] * other[1]) % n, (one[0] * other[1] + one[1] * other[0]) % n)


def pair_times_itself(pair, often, d, n):
    """The pair's power, figure by figure of often written in twos."""
    made = (1, 0)
    for figure in bin(often)[2:]:
        made = pair_times(made, made, d, n)
        if figure == "1":
            made = pair_times(made, pair, d, n)
    return made


def steps_home(pair, d, n):
    """How often the pair is multiplied by itself until it is (1, 0) at first; None where never."""
    made = pair
    for often in range(1, 2 * n + 3):
        if made == (1, 0):
            return often
        made = pair_times(made, pair, d, n)
    return None


def places_of_halves(n):
    """The places t, t doubled, and so on, ahead of n - 1."""
    places = [n - 1]
    while places[0] % 2 == 0:
        places.insert(0, places[0] // 2)
    return places[:-1]


def plain_halves(n, base):
    """Whether the base, or its rest, lets n by, by halves."""
    powers = [pow(base, place, n) for place in places_of_halves(n)]
    return powers[0] == 1 or n - 1 in powers


def within(thing, least, most):
    return type(thing) is int and least <= thing <= most


def reads(n, thing, words=WORDS):
    """Whether the thing is a paper of n that begins with one of the words, by points 30, 40 and 51."""
    if type(thing) is not tuple or len(thing) == 0 or type(thing[0]) is not str or thing[0] not in words:
        return False
    if thing[0] == "two":
        return n == 2 and len(thing) == 1
    if n <= 2 or len(thing) != (4 if thing[0] == "other" else 3):
        return False
    read = {"full": reads_full, "share": reads_share, "other": reads_other}[thing[0]]
    return read(n, *thing[1:])


def reads_rows(rows, words):
    """The number of which these are the rows; None where they are none."""
    if type(rows) is not tuple or len(rows) == 0:
        return None
    for row in rows:
        if type(row) is not tuple or len(row) != 3:
            return None
        if not within(row[0], 2, 2 * MOST) or not within(row[1], 1, 200) or not reads(row[0], row[2], words):
            return None
    primes = [row[0] for row in rows]
    if primes != sorted(set(primes)):
        return None
    return math.prod(prime ** often for prime, often, paper in rows)


def reads_full(n, base, rows):
    if not within(base, 1, n - 1) or reads_rows(rows, ("two", "full")) != n - 1 or pow(base, n - 1, n) != 1:
        return False
    return all(pow(base, (n - 1) // row[0], n) != 1 for row in rows)


def reads_share(n, base, rows):
    m = reads_rows(rows, WORDS)
    if n % 2 == 0 or not within(base, 1, n - 1) or m is None or (n - 1) % m != 0 or m * m <= n:
        return False
    if pow(base, n - 1, n) != 1:
        return False
    return all(math.gcd(pow(base, (n - 1) // row[0], n) - 1, n) == 1 for row in rows)


def reads_other(n, d, pair, rows):
    if n % 2 == 0 or not within(d, 1, n - 1) or math.gcd(d, n) != 1 or type(pair) is not tuple or len(pair) != 2:
        return False
    if not within(pair[0], 0, n - 1) or not within(pair[1], 0, n - 1):
        return False
    if (pair[0] ** 2 - d * pair[1] ** 2) % n != 1 or reads_rows(rows, WORDS) != n + 1:
        return False
    if pair_times_itself(pair, n + 1, d, n) != (1, 0):
        return False
    for prime, often, paper in rows:
        x, y = pair_times_itself(pair, (n + 1) // prime, d, n)
        if math.gcd((x - 1) ** 2 - d * y ** 2, n) != 1:
            return False
    return True


def made_rows(number, maker):
    return tuple((prime, often, maker(prime)) for prime, often in plain_parts(number))


def made_full(n):
    """The full paper of the least bases."""
    if n == 2:
        return ("two",)
    rows = made_rows(n - 1, made_full)
    return next(("full", base, rows) for base in range(1, n) if reads_full(n, base, rows))


def share_of(n, rows):
    return next(("share", base, rows) for base in range(1, n) if reads_share(n, base, rows))


def made_share(n):
    """A share paper by all parts, with share papers within it."""
    if n == 2:
        return ("two",)
    return share_of(n, made_rows(n - 1, made_share))


def made_other(n, maker=made_full):
    """A paper by the number one more."""
    rows = made_rows(n + 1, maker)
    d = next(d for d in range(1, n) if pow(d, (n - 1) // 2, n) == n - 1)
    for x in range(n):
        square = pair_times((x, 1), (x, 1), d, n)
        undoing = pow(x * x - d, -1, n)
        pair = (square[0] * undoing % n, square[1] * undoing % n)
        if reads_other(n, d, pair, rows):
            return ("other", d, pair, rows)


def made_mixed(n):
    """A paper with those of several kinds within it."""
    if n == 2:
        return ("two",)
    return (made_full, made_share_of_mixed, made_other_of_mixed)[n % 3](n)


def made_share_of_mixed(n):
    return share_of(n, made_rows(n - 1, made_mixed))


def made_other_of_mixed(n):
    return made_other(n, made_mixed)


def written(paper):
    """The paper's text, by point 100."""
    if paper == ("two",):
        return "two"
    rows = "; ".join(f"{prime}^{often} {written(inner)}" for prime, often, inner in paper[-1])
    if paper[0] == "other":
        return f"other {paper[1]} {paper[2][0]} {paper[2][1]} [{rows}]"
    return f"{paper[0]} {paper[1]} [{rows}]"


def otherwise(thing):
    """Other things that may stand where the thing stood."""
    some = [None, True, False, "", [], (), {}, 0, 1, -1, 2, 3, ("two",), [thing], (thing,), {1: thing}]
    if type(thing) is int:
        some += [thing + 1, thing - 1, -thing, thing + MOST, 10 ** 59, str(thing), thing * 2]
    if type(thing) is str:
        some += [thing + "s", thing.upper(), thing.title(), thing[1:], " " + thing, thing + " ", *WORDS]
    if type(thing) is tuple:
        some += [list(thing), thing[::-1], thing + (1,), (None,) + thing, thing + thing]
        some += [thing[:at] + thing[at + 1:] for at in range(len(thing))]
        some += [thing[:at] + thing[at:at + 1] * 2 + thing[at + 1:] for at in range(len(thing))]
        if thing and type(thing[0]) is str:
            some += [made_full(3), made_full(5), made_full(7), made_share(5), made_other(3), made_other(7), "two"]
            some += [("full", *thing[1:]), ("share", *thing[1:]), ("other", *thing[1:])]
    return some


def altered(thing):
    """The thing with one thing otherwise, at whatever place and depth."""
    yield from otherwise(thing)
    if type(thing) is tuple:
        for at, part in enumerate(thing):
            for other in altered(part):
                yield thing[:at] + (other,) + thing[at + 1:]


def nested(thing, depth):
    for _ in range(depth):
        thing = (thing,)
    return thing


def no_papers():
    """Things that are no paper of any number."""
    deep_rows = deep_full = ("two",)
    deep_list = []
    for _ in range(25):
        deep_rows = ((2, 1, deep_rows),)
        deep_full = ("full", 2, ((2, 1, deep_full),))
        deep_list = [deep_list]
    return [
        0, 1, 2, 3, 7, -2, 10 ** 59, True, False, None, "", "two", "full", "t", "two " * 400, [], ["two"], (), {},
        {"two": 2}, {2: ("two",)}, ("two", 2), ("two",) * 2, ("two", ()), (("two",),), ("TWO",), ("Two",), ("tw",),
        (None,), (True,), (2,), ((),), ([],), ({},), (["two"],), ({"two": 1},), ("full",), ("share",), ("other",),
        ("full", 2), ("share", 2), ("full", 2, ()), ("share", 2, ()), ("other", 2, (0, 1), ()), ("full", 2, (), ()),
        ("full", 2, ((2, 1, ("two",)),), 1), ("other", 2, ((2, 2, ("two",)),)), ("full", None, None),
        ("share", {}, []), ("other", None, None, None), ("other", "2", "01", "two"), (2, 1, ("two",)),
        ("full", 2, (2, 1, ("two",))), ("full", 2, ((2, 10 ** 59, ("two",)),)),
        ("full", 2, ((10 ** 59, 1, ("two",)),)), ("share", 2, ((2, 10 ** 59, ("two",)),)),
        ("other", 2, (0, 1), ((2, 10 ** 59, ("two",)),)),
        ("full", 2, ((1, 10 ** 59, ("two",)),)), ("full", 2, ((-2, 1, ("two",)),)), ("full", 2, ((0, 1, ("two",)),)),
        ("full", 10 ** 59, ((2, 1, ("two",)),)), ("other", 10 ** 59, (10 ** 59, -1), ((2, 2, ("two",)),)),
        nested("two", 60), nested((), 60), nested(("full", 2), 59), deep_rows, deep_full,
        deep_list, tuple(range(2000)), ("full", 2, tuple((k, 1, ("two",)) for k in range(2, 400))),
        ("full", 2, ((2, 1, ("two",)),) * 400), ("share", 2, ((2, 1, ("two",)),) * 400), ("two",) + (2,) * 1999,
        ["full", 2, ((2, 1, ("two",)),)], ("full", 2, [(2, 1, ("two",))]), ("full", 2, ([2, 1, ("two",)],)),
        ("full", 2, ((2, 1, ["two"]),)), ("full", 2, ((2, 1, "two"),)), ("full", 2, {2: ("two",)}),
    ]
