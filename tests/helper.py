"""What the tests have in common: wrong things, a limit of time, and looks at refusals."""

import signal
import unittest

MOST = 10 ** 30
MOST_TRIED = 10 ** 9

# Each test takes far less than a second where it is reckoned as the document asks.
SECONDS = 20

NO_WHOLE = (
    True, False, None, "", "1", "two", b"1", 1.0, [], [1], [1, 2], (), (1,), (1, 2), {}, {1: 1}, {"n": 7},
    {1}, object(), int, len,
)


def wrong_numbers(least, most):
    """Things of every kind that are no whole number from least to most."""
    return NO_WHOLE + (least - 1, most + 1, least - 10 ** 40, most + 10 ** 40, 10 ** 6000, -(10 ** 6000))


def too_late(number, frame):
    raise AssertionError(f"not answered within {SECONDS} seconds")


def as_it_stands(thing):
    """The thing with all lists, tuples and dicts within it, as it is now."""
    if isinstance(thing, dict):
        return (dict, [(key, as_it_stands(thing[key])) for key in thing])
    if isinstance(thing, (list, tuple)):
        return (type(thing), [as_it_stands(part) for part in thing])
    return (type(thing), thing)


class Case(unittest.TestCase):
    def setUp(self):
        # What is reckoned in a slow way fails, and does not hang.
        before = signal.signal(signal.SIGALRM, too_late)
        self.addCleanup(signal.signal, signal.SIGALRM, before)
        self.addCleanup(signal.alarm, 0)
        signal.alarm(SECONDS)

    def refused(self, kind, name, deed, *things):
        """The deed refuses the things with just this class, for the one of this name, and changes none of them."""
        before = as_it_stands(things)
        with self.assertRaises(kind) as caught:
            deed(*things)
        self.assertIs(type(caught.exception), kind)
        self.assertEqual(str(caught.exception).split()[0], name)
        self.assertTrue(before == as_it_stands(things))

    def whole(self, expected, answer):
        self.assertIs(type(answer), int)
        self.assertEqual(answer, expected)
