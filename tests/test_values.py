"""Point 3: names, values, their order, told fields."""

import itertools
import unittest

from making import is_number, odd_things, same_kinds
from webstore.values import before, fields_told, is_name, is_value


class Names(unittest.TestCase):
    def test_one_to_eight_letters(self):
        for thing in ("a", "z", "m", "az", "abcdefg", "abcdefgh", "zzzzzzzz"):
            self.assertIs(is_name(thing), True, thing)

    def test_too_short_and_too_long(self):
        for thing in ("", "abcdefghi", "a" * 9, "a" * 80):
            self.assertIs(is_name(thing), False, thing)

    def test_other_signs(self):
        for sign in ("A", "Z", "0", "9", " ", "`", "{", "_", "-", "\n", "\x00", "\u00e4", "\u0430", "\uff41"):
            for thing in (sign, "a" + sign, sign + "a", "a" + sign + "a"):
                self.assertIs(is_name(thing), False, repr(thing))

    def test_other_things(self):
        for thing in (0, 1, -1, True, False, None, ("a",), ["a"], (), [], ("a", "b"), ["a", "b"]):
            self.assertIs(is_name(thing), False, repr(thing))

    def test_every_single_sign(self):
        for code in range(256):
            self.assertIs(is_name(chr(code)), 97 <= code <= 122, code)


class Values(unittest.TestCase):
    def test_numbers_and_texts(self):
        for thing in (0, 1, -1, 10 ** 12 - 1, -10 ** 12, 10 ** 40, "", "a", "A b~", "x" * 500, "\n"):
            self.assertIs(is_value(thing), True, repr(thing))

    def test_nothing_else(self):
        for thing in (True, False, None, (), [], (1,), ["a"], ("a", 1)):
            self.assertIs(is_value(thing), False, repr(thing))

    def test_of_any_thing_true_or_false(self):
        for thing in odd_things():
            self.assertIs(is_value(thing), isinstance(thing, str) or is_number(thing), repr(thing))
            self.assertIn(is_name(thing), (True, False))
            self.assertIsInstance(is_name(thing), bool)


class Order(unittest.TestCase):
    RISING = (-10 ** 12, -10, -9, -1, 0, 1, 2, 9, 10, 11, 10 ** 12,
              "", " ", "-1", "0", "1", "10", "2", "A", "B", "Z", "a", "a ", "aa", "ab", "b", "~")

    def test_numbers_by_size_ahead_of_texts_as_python_sorts_them(self):
        for (i, one), (j, other) in itertools.product(enumerate(self.RISING), repeat=2):
            self.assertIs(before(one, other), i < j, (one, other))

    def test_a_value_is_not_ahead_of_itself(self):
        for value in self.RISING:
            self.assertIs(before(value, value), False)


class ToldFields(unittest.TestCase):
    def test_of_a_dict_in_any_order(self):
        told = (("a", 1), ("aa", "x"), ("b", -3), ("z", ""))
        for order in itertools.permutations(told):
            self.assertTrue(same_kinds(fields_told(dict(order)), told))

    def test_of_told_pairs(self):
        told = (("a", 1), ("b", "x"))
        self.assertTrue(same_kinds(fields_told(told), told))
        self.assertTrue(same_kinds(fields_told(fields_told({"b": "x", "a": 1})), told))

    def test_of_none(self):
        self.assertTrue(same_kinds(fields_told({}), ()))
        self.assertTrue(same_kinds(fields_told(()), ()))

    def test_what_is_handed_in_stays_and_is_not_kept(self):
        fields = {"b": 2, "a": "x"}
        told = fields_told(fields)
        self.assertEqual(list(fields.items()), [("b", 2), ("a", "x")])
        fields["a"] = "y"
        fields["c"] = 3
        self.assertTrue(same_kinds(told, (("a", "x"), ("b", 2))))

    def test_told_the_same_again(self):
        fields = {"b": 2, "a": "x"}
        self.assertTrue(same_kinds(fields_told(fields), fields_told(fields)))


if __name__ == "__main__":
    unittest.main()
