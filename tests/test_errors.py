import unittest

from primepapers import errors

WITH_TEXT = (
    "NoNumber", "NoPrime", "NoPair", "NoPaper", "NoBases", "NoText", "NoLine", "NoName", "NoDeed",
)


class Errors(unittest.TestCase):
    def test_any_refusal_is_a_value_error(self):
        self.assertEqual(errors.PrimeError.__bases__, (ValueError,))

    def test_each_stands_straight_under_prime_error(self):
        for name in WITH_TEXT + ("TooGreat",):
            with self.subTest(name):
                self.assertEqual(getattr(errors, name).__bases__, (errors.PrimeError,))

    def test_each_is_a_class_of_its_own(self):
        self.assertEqual(len({getattr(errors, name) for name in WITH_TEXT + ("TooGreat",)}), 10)

    def test_made_with_a_text(self):
        for name in WITH_TEXT + ("PrimeError",):
            with self.subTest(name):
                self.assertEqual(str(getattr(errors, name)("some words")), "some words")

    def test_too_great_has_its_two_fields(self):
        error = errors.TooGreat(1009, 1000)
        self.assertEqual((error.many, error.most), (1009, 1000))

    def test_too_great_wants_both_fields(self):
        for things in ((), (1009,), (1009, 1000, 1)):
            with self.subTest(things), self.assertRaises(TypeError):
                errors.TooGreat(*things)

    def test_raised_and_taken_by_name(self):
        for name in WITH_TEXT:
            others = tuple(getattr(errors, other) for other in WITH_TEXT + ("TooGreat",) if other != name)
            with self.subTest(name):
                with self.assertRaises(errors.PrimeError) as caught:
                    raise getattr(errors, name)("some words")
                self.assertNotIsInstance(caught.exception, others)
        with self.assertRaises(errors.TooGreat):
            raise errors.TooGreat(2, 1)


if __name__ == "__main__":
    unittest.main()
