"""The refusals: each class's base and fields."""

import unittest

from webstore import errors

WORDY = ("NoPlace", "NoTie", "Tied", "NoWalk", "TooMany", "NoColumn", "NoPlan", "Taken")
FIELDS = {"Endless": ("loop",), "NoEnd": ("row",), "Broken": ("rule", "breach"),
          "BadDeed": ("deed", "word"), "BadRow": ("row",)}


class Errors(unittest.TestCase):
    def test_web_error_stands_under_value_error(self):
        self.assertEqual(errors.WebError.__bases__, (ValueError,))

    def test_each_stands_straight_under_web_error(self):
        for name in WORDY + tuple(FIELDS):
            self.assertEqual(getattr(errors, name).__bases__, (errors.WebError,), name)

    def test_there_is_no_other(self):
        found = [name for name, thing in vars(errors).items() if isinstance(thing, type)]
        self.assertEqual(sorted(found), sorted(("WebError",) + WORDY + tuple(FIELDS)))

    def test_made_with_words(self):
        for name in WORDY + ("WebError",):
            made = getattr(errors, name)("some words")
            self.assertEqual(str(made), "some words")

    def test_made_with_fields(self):
        for name, fields in FIELDS.items():
            values = [(field, 3) for field in fields]
            made = getattr(errors, name)(*values)
            for field, value in zip(fields, values):
                self.assertEqual(getattr(made, field), value, name)
            with self.assertRaises(TypeError):
                getattr(errors, name)(*values, 1)

    def test_raised_and_taken_by_each_base(self):
        for base in (errors.Broken, errors.WebError, ValueError):
            with self.assertRaises(base) as taken:
                raise errors.Broken("rule", ("place", 3))
            self.assertEqual((taken.exception.rule, taken.exception.breach), ("rule", ("place", 3)))


if __name__ == "__main__":
    unittest.main()
