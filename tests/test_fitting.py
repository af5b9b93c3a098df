"""Point 4: tests, and what fits them."""

import random
import unittest

from making import nested, odd_things, spoiled
from webstore.fitting import fits, is_test
from webstore.values import fields_told, is_name, is_value

LEAVES = (("any",), ("has", "a"), ("is", "a", 1), ("is", "a", "x"), ("under", "b", 5), ("under", "b", "m"),
          ("over", "c", -3), ("over", "c", ""))
NESTED = (("not", ("any",)), ("both", ("any",), ("has", "a")), ("either", ("is", "a", 1), ("not", ("has", "b"))),
          ("not", ("not", ("both", ("either", ("any",), ("any",)), ("over", "abcdefgh", "x")))))


def judged(thing):
    """Whether a thing is a test, told in another manner: by its word's parts."""
    parts = {"any": "", "has": "n", "is": "nv", "under": "nv", "over": "nv", "both": "tt", "either": "tt", "not": "t"}
    judges = {"n": is_name, "v": is_value, "t": judged}
    if not isinstance(thing, tuple) or not thing or not isinstance(thing[0], str) or thing[0] not in parts:
        return False
    wanted = parts[thing[0]]
    return len(thing) == len(wanted) + 1 and all(judges[sort](part) for sort, part in zip(wanted, thing[1:]))


def random_test(chance, deep):
    """A test with at most so many tests within one another."""
    word = chance.choice(("any", "has", "is", "under", "over") if deep == 1 else ("both", "either", "not"))
    if word == "any":
        return (word,)
    if word == "has":
        return (word, chance.choice("abc"))
    if word in ("is", "under", "over"):
        return (word, chance.choice("abc"), chance.choice((-1, 0, 1, "", "m", "x")))
    parts = [random_test(chance, chance.randrange(1, deep)) for _ in range(1 if word == "not" else 2)]
    return (word, *parts)


def expected(test, fields):
    """Whether a test holds, by the words of the document."""
    word = test[0]
    if word == "any":
        return True
    if word == "has":
        return test[1] in fields
    if word == "not":
        return not expected(test[1], fields)
    if word == "both":
        return expected(test[1], fields) & expected(test[2], fields)
    if word == "either":
        return expected(test[1], fields) | expected(test[2], fields)
    if test[1] not in fields:
        return False
    value, bound = fields[test[1]], test[2]
    if type(value) is not type(bound):
        return False
    return {"is": value == bound, "under": value < bound, "over": value > bound}[word]


class Form(unittest.TestCase):
    def test_each_form(self):
        for thing in LEAVES + NESTED:
            self.assertIs(is_test(thing), True, thing)

    def test_ten_deep_and_beyond(self):
        for deep in (9, 10, 11, 14):
            thing = ("any",)
            for _ in range(deep):
                thing = ("not", thing)
            self.assertIs(is_test(thing), True)
            self.assertIs(is_test(("not",) + thing), False)

    def test_part_too_few_and_too_many(self):
        for thing in LEAVES + NESTED:
            self.assertIs(is_test(thing[:-1]), False, thing)
            for more in (None, "a", 1, ("any",), True):
                self.assertIs(is_test(thing + (more,)), False, thing)

    def test_wrong_words(self):
        for thing in LEAVES + NESTED:
            for word in ("all", "Any", "", "ANY", None, 0, True, ["any"], ("any",), "step"):
                self.assertIs(is_test((word,) + thing[1:]), False, (word,) + thing[1:])

    def test_list_for_a_tuple(self):
        for thing in LEAVES + NESTED:
            self.assertIs(is_test(list(thing)), False, thing)
            self.assertIs(is_test(("not", list(thing))), False, thing)
            self.assertIs(is_test(("both", thing, list(thing))), False, thing)
            self.assertIs(is_test(("either", list(thing), thing)), False, thing)

    def test_name_that_is_none(self):
        for name in ("", "A", "abcdefghi", "a1", 1, None, True, ("a",), ["a"]):
            for thing in (("has", name), ("is", name, 1), ("under", name, 1), ("over", name, "x")):
                self.assertIs(is_test(thing), False, thing)

    def test_value_that_is_none(self):
        for value in (True, False, None, (), [], (1,), ["x"]):
            for word in ("is", "under", "over"):
                self.assertIs(is_test((word, "a", value)), False, value)
                self.assertIs(is_test(("not", (word, "a", value))), False, value)

    def test_value_of_any_length(self):
        self.assertIs(is_test(("is", "a", "x" * 21)), True)
        self.assertIs(is_test(("is", "a", 10 ** 13)), True)

    def test_spoiled_ones(self):
        for thing in LEAVES + NESTED:
            for other in spoiled(thing):
                self.assertIs(is_test(other), judged(other), repr(other))

    def test_of_any_thing_true_or_false(self):
        for thing in odd_things():
            self.assertIs(is_test(thing), judged(thing), repr(thing))
            self.assertIs(is_test(("not", thing)), judged(thing), repr(thing))
            self.assertIs(is_test(("both", ("any",), thing)), judged(thing), repr(thing))
            self.assertIs(is_test(("is", "a", thing)), is_value(thing), repr(thing))
        self.assertIs(is_test(nested("any", 15, tuple)), False)


class Fits(unittest.TestCase):
    def check(self, test, fields, wanted):
        self.assertIs(fits(test, fields), wanted, (test, fields))
        self.assertIs(fits(test, fields_told(fields)), wanted, (test, fields))
        self.assertIs(fits(("not", test), fields), not wanted, (test, fields))

    def test_any_and_has(self):
        self.check(("any",), {}, True)
        self.check(("any",), {"a": 1}, True)
        self.check(("has", "a"), {}, False)
        self.check(("has", "a"), {"b": 1}, False)
        self.check(("has", "a"), {"a": 0}, True)
        self.check(("has", "a"), {"a": "", "b": 2}, True)

    def test_is(self):
        self.check(("is", "a", 1), {"a": 1}, True)
        self.check(("is", "a", 1), {"a": 2}, False)
        self.check(("is", "a", 1), {"a": "1"}, False)
        self.check(("is", "a", "1"), {"a": 1}, False)
        self.check(("is", "a", "x"), {"a": "x"}, True)
        self.check(("is", "a", "x"), {"a": "y", "b": "x"}, False)
        self.check(("is", "a", ""), {}, False)
        self.check(("is", "a", 0), {}, False)

    def test_under_and_over(self):
        for word, less, more in (("under", True, False), ("over", False, True)):
            self.check((word, "a", 5), {"a": 4}, less)
            self.check((word, "a", 5), {"a": 5}, False)
            self.check((word, "a", 5), {"a": 6}, more)
            self.check((word, "a", 10), {"a": 9}, less)
            self.check((word, "a", "10"), {"a": "9"}, more)
            self.check((word, "a", "m"), {"a": ""}, less)
            self.check((word, "a", "m"), {"a": "m"}, False)
            self.check((word, "a", "m"), {"a": "mm"}, more)
            self.check((word, "a", 5), {}, False)
            self.check((word, "a", 5), {"b": 4}, False)
            self.check((word, "a", 5), {"b": 6}, False)

    def test_of_the_other_sort(self):
        for word in ("under", "over", "is"):
            for number in (-5, 0, 5):
                for text in ("", "0", "5", "z"):
                    self.check((word, "a", number), {"a": text}, False)
                    self.check((word, "a", text), {"a": number}, False)

    def test_both_either_not(self):
        yes, no = ("any",), ("not", ("any",))
        for one in (yes, no):
            for other in (yes, no):
                self.check(("both", one, other), {}, one == yes and other == yes)
                self.check(("either", one, other), {}, one == yes or other == yes)

    def test_random_ones(self):
        chance = random.Random(4)
        for _ in range(3000):
            test = random_test(chance, chance.randrange(1, 11))
            fields = {name: chance.choice((-1, 0, 1, "", "m", "x")) for name in "abcd" if chance.random() < 0.6}
            self.assertIs(is_test(test), True)
            self.check(test, fields, expected(test, fields))

    def test_what_is_handed_in_stays(self):
        fields = {"b": 1, "a": "x"}
        fits(("both", ("has", "c"), ("is", "a", "x")), fields)
        self.assertEqual(list(fields.items()), [("b", 1), ("a", "x")])


if __name__ == "__main__":
    unittest.main()
