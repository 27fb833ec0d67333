"""The errors: their built-in classes, their arguments, and what they keep."""

import unittest

from backasked import errors

# Each error: its built-in class, and its arguments by name, with values that it may be passed.
LISTED = (
    ("InvalidStore", ValueError, (("index", (None, 0, 17)),)),
    ("InvalidQuestion", ValueError, (("part", (None, "arity", "parts", 0, 999)),)),
    ("InvalidProgram", ValueError, (("index", (None, 0, 3)),)),
    ("InvalidWishes", ValueError, (("index", (None, 0, 2)),)),
    ("InvalidOptions", ValueError, (("index", (None, 0, 2)),)),
    ("InvalidClaim", ValueError, (("part", (None, "kinds", "n")),)),
    ("ParseError", ValueError, (("line", (0, 1001)),)),
    ("Refused", RuntimeError, (("index", (-1, 0, 49)),)),
    ("Banned", RuntimeError, (("index", (0, 5, 7)), ("things", ((), (3,), (29, 0))))),
    ("Unfounded", RuntimeError, (("fault", (("form",), ("other",), ("ground", 0, ("ban",)))),)),
    ("LimitExceeded", OverflowError, (("limit", (1, 300, 1000)),)),
    ("NothingDone", RuntimeError, ()),
)


def argument_rows(arguments):
    """Some rows of arguments: the first values, the second ones, and so on, the last one repeated."""
    many = max([len(values) for _, values in arguments], default=1)
    return [[values[min(k, len(values) - 1)] for _, values in arguments] for k in range(many)]


class ErrorsTest(unittest.TestCase):
    def test_built_in_classes(self):
        for name, base, _ in LISTED:
            with self.subTest(name=name):
                error = getattr(errors, name)
                for other in (ValueError, RuntimeError, OverflowError):
                    self.assertEqual(issubclass(error, other), other is base)

    def test_no_error_is_another_one(self):
        for name, _, _ in LISTED:
            for other, _, _ in LISTED:
                expected = name == other
                self.assertEqual(issubclass(getattr(errors, name), getattr(errors, other)), expected, (name, other))

    def test_kept_when_passed_by_place(self):
        for name, base, arguments in LISTED:
            for row in argument_rows(arguments):
                with self.subTest(name=name, row=row):
                    error = getattr(errors, name)(*row)
                    self.assertIsInstance(error, base)
                    self.assertEqual([getattr(error, word) for word, _ in arguments], row)

    def test_kept_when_passed_by_name(self):
        for name, _, arguments in LISTED:
            for row in argument_rows(arguments):
                with self.subTest(name=name, row=row):
                    named = {word: value for (word, _), value in zip(arguments, row)}
                    error = getattr(errors, name)(**named)
                    self.assertEqual([getattr(error, word) for word, _ in arguments], row)

    def test_kept_as_the_very_object(self):
        for name, _, arguments in LISTED:
            row = [("kept", [1], {"a": None}) for _ in arguments]
            error = getattr(errors, name)(*row)
            for (word, _), value in zip(arguments, row):
                self.assertIs(getattr(error, word), value)

    def test_the_number_of_arguments(self):
        for name, _, arguments in LISTED:
            with self.subTest(name=name):
                error = getattr(errors, name)
                with self.assertRaises(TypeError):
                    error(*[0] * (len(arguments) + 1))
                if arguments:
                    with self.assertRaises(TypeError):
                        error()

    def test_raised_and_caught_with_what_they_keep(self):
        for name, base, arguments in LISTED:
            for row in argument_rows(arguments):
                with self.subTest(name=name, row=row):
                    with self.assertRaises(base) as caught:
                        raise getattr(errors, name)(*row)
                    self.assertEqual([getattr(caught.exception, word) for word, _ in arguments], row)


if __name__ == "__main__":
    unittest.main()
