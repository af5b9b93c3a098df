"""Point 14: what a pattern is."""

import itertools
import unittest

from making import is_number, odd_things, spoiled
from trying import AF, ANY, EMPTY, STAR
from webstore.fitting import is_test
from webstore.patterns import is_pattern
from webstore.values import is_name
from webstore.ways import is_way

SPOT = (None, ("any",))
SPOTS = (SPOT, ("p", ("has", "a")), ("abcdefgh", ("both", ("not", ("is", "a", 1)), ("under", "b", "x"))))
BOWS = ((0, 1, "all", AF), (1, 0, "short", STAR), (2, 2, "plain", EMPTY), (0, 2, "any", ("many", ANY, 0, 6)))
PAIRS = (("unlike", 0, 1), ("same", 0, "a", 2, "b"), ("under", 2, "a", 1, "a"), ("unlike", 1, 1),
         ("same", 1, "a", 1, "b"), ("under", 2, "a", 2, "b"))
WHOLE = (SPOTS, BOWS, PAIRS)


def is_spot_number(thing, spots):
    return is_number(thing) and thing in range(len(spots))


def judged(thing):
    """Whether a thing is a pattern, told in another manner: by the forms of its parts."""
    if not isinstance(thing, tuple) or len(thing) != 3 or not all(isinstance(part, tuple) for part in thing):
        return False
    spots, bows, pairs = thing
    judges = {"k": lambda part: part is None or is_name(part), "t": is_test, "n": is_name, "w": is_way,
              "s": lambda part: isinstance(part, str) and part in ("all", "short", "plain", "any"),
              "u": lambda part: part == "unlike", "f": lambda part: isinstance(part, str) and part in ("same", "under"),
              "i": lambda part: is_spot_number(part, spots)}

    def has_form(each, form):
        return (isinstance(each, tuple) and len(each) == len(form)
                and all(judges[sign](part) for sign, part in zip(form, each)))

    return (len(spots) > 0 and all(has_form(spot, "kt") for spot in spots) and all(has_form(bow, "iisw") for bow in bows)
            and all(has_form(pair, "uii") or has_form(pair, "finin") for pair in pairs))


def with_bow(bow):
    return (SPOTS, (BOWS[0], bow), PAIRS)


def with_pair(pair):
    return (SPOTS, BOWS, PAIRS[:2] + (pair,))


def with_spot(spot):
    return (SPOTS + (spot,), BOWS, PAIRS)


class IsPattern(unittest.TestCase):
    def told(self, thing, wanted):
        self.assertIs(is_pattern(thing), wanted, repr(thing))

    def test_right_ones(self):
        for thing in (WHOLE, ((SPOT,), (), ()), (SPOTS, (), ()), (SPOTS, BOWS, ()), (SPOTS, (), PAIRS),
                      ((SPOT,), ((0, 0, "all", AF),), (("unlike", 0, 0),))):
            self.told(thing, True)
        for bow in BOWS:
            self.told((SPOTS, (bow,), ()), True)
            self.told((SPOTS, (bow, bow), ()), True)
        for pair in PAIRS:
            self.told((SPOTS, (), (pair,)), True)
            self.told((SPOTS, (), (pair, pair)), True)
        for sort in ("all", "short", "plain", "any"):
            for i, j in itertools.product(range(3), repeat=2):
                self.told(with_bow((i, j, sort, AF)), True)
                self.told(with_pair(("unlike", i, j)), True)
                self.told(with_pair(("same", i, "a", j, "abcdefgh")), True)
                self.told(with_pair(("under", i, "a", j, "a")), True)

    def test_no_spot_at_all(self):
        self.told(((), (), ()), False)
        self.told(((), BOWS, PAIRS), False)

    def test_a_part_too_few_or_too_many(self):
        for at in range(3):
            self.told(WHOLE[:at] + WHOLE[at + 1:], False)
            self.told(WHOLE[:at] + ((),) + WHOLE[at:], False)
        for spot in SPOTS:
            for other in (spot[:1], spot[1:], (), spot + (("any",),), spot + (None,)):
                self.told(with_spot(other), False)
        for bow in BOWS:
            for at in range(4):
                self.told(with_bow(bow[:at] + bow[at + 1:]), False)
                self.told(with_bow(bow[:at] + (bow[at],) + bow[at:]), False)
            self.told(with_bow(()), False)
        for pair in PAIRS:
            for at in range(len(pair)):
                self.told(with_pair(pair[:at] + pair[at + 1:]), False)
                self.told(with_pair(pair[:at] + (pair[at],) + pair[at:]), False)
            self.told(with_pair(()), False)

    def test_a_list_for_a_tuple(self):
        self.told(list(WHOLE), False)
        for at in range(3):
            self.told(WHOLE[:at] + (list(WHOLE[at]),) + WHOLE[at + 1:], False)
            self.told(WHOLE[:at] + ([],) + WHOLE[at + 1:], False)
        self.told(with_spot(list(SPOT)), False)
        self.told(with_spot((None, ["any"])), False)
        self.told(with_bow(list(BOWS[0])), False)
        self.told(with_bow((0, 1, "all", list(AF))), False)
        for pair in PAIRS:
            self.told(with_pair(list(pair)), False)

    def test_kinds_and_tests_of_spots(self):
        for kind in ("", "A", "abcdefghi", "a1", "a b", 0, 1, True, False, (), [], ("a",), ["a"]):
            self.told(with_spot((kind, ("any",))), False)
        for test in (("any", 1), ("has",), ("has", "A"), ("is", "a", None), ("is", "a", True), ("both", ("any",)), (),
                     None, "any", True, 0, ("either", ("any",), ["any"]), ("unknown",), AF):
            self.told(with_spot((None, test)), False)
        for spot in (None, "ab", 0, True, ("any",), (("any",), None)):
            self.told(with_spot(spot), False)

    def test_sorts_and_ways_of_bows(self):
        for sort in ("", "All", "ALL", "both", "each", "shortest", None, 0, True, (), [], ("all",), ["all"]):
            self.told(with_bow((0, 1, sort, AF)), False)
        for way in (("step",), ("step", "a"), ("step", "A", "forth"), ("again",), ("many", AF, 2, 1), ("many", AF, 0, 7),
                    ("then", AF), (), None, "empty", True, 0, ("any",), ("again", list(AF))):
            self.told(with_bow((0, 1, "any", way)), False)
        for bow in (None, "abcd", 0, True, AF):
            self.told(with_bow(bow), False)

    def test_numbers_of_spots(self):
        for number in (-1, 3, 4, -3, 10 ** 12, True, False, None, "0", (), [], (0,), [0]):
            for bow in ((number, 0, "all", AF), (0, number, "all", AF), (number, number, "all", AF)):
                self.told(with_bow(bow), False)
            for pair in (("unlike", number, 0), ("unlike", 0, number), ("same", number, "a", 0, "a"),
                         ("same", 0, "a", number, "a"), ("under", number, "a", 0, "a"), ("under", 0, "a", number, "a")):
                self.told(with_pair(pair), False)
        self.told(((SPOT,), ((0, 1, "all", AF),), ()), False)
        self.told(((SPOT, SPOT), ((0, 1, "all", AF),), ()), True)

    def test_words_and_names_of_pairs(self):
        for word in ("", "Unlike", "like", "over", "is", "less", None, 0, True, (), [], ("unlike",), ["same"]):
            self.told(with_pair((word, 0, 1)), False)
            self.told(with_pair((word, 0, "a", 1, "a")), False)
        self.told(with_pair(("same", 0, 1)), False)
        self.told(with_pair(("under", 0, 1)), False)
        self.told(with_pair(("unlike", 0, "a", 1, "a")), False)
        for name in ("", "A", "abcdefghi", "a1", None, 0, True, (), [], ("a",)):
            for word in ("same", "under"):
                self.told(with_pair((word, 0, name, 1, "a")), False)
                self.told(with_pair((word, 0, "a", 1, name)), False)
        for pair in (None, "abc", "unlike", 0, True):
            self.told(with_pair(pair), False)

    def test_spoiled_ones(self):
        seen = [judged(other) for other in spoiled(WHOLE)]
        for other, wanted in zip(spoiled(WHOLE), seen):
            self.told(other, wanted)
        self.assertGreater(seen.count(True), 20)
        self.assertGreater(seen.count(False), 500)

    def test_of_any_thing_true_or_false(self):
        for thing in odd_things():
            for other in (thing, (thing, (), ()), (SPOTS, thing, ()), (SPOTS, (), thing), (thing, thing, thing),
                          with_spot(thing), with_bow(thing), with_pair(thing), with_spot((thing, ("any",))),
                          with_spot((None, thing)), with_bow((thing, 0, "all", AF)), with_bow((0, 0, thing, AF)),
                          with_bow((0, 0, "all", thing)), with_pair((thing, 0, 0)), with_pair(("same", 0, thing, 0, "a")),
                          with_pair((thing, 0, "a", 0, "a")), with_pair(("unlike", thing, 0))):
                self.told(other, judged(other))

    def test_bounds_are_not_looked_at(self):
        spots = (SPOT,) * 9
        bows = tuple((i, 8 - i, "all", AF) for i in range(9))
        pairs = tuple(("unlike", i, 8 - i) for i in range(9))
        self.told((spots, bows, pairs), True)
        way, test = AF, ("any",)
        for _ in range(6):
            way, test = ("again", ("many", ("then", AF, way), 0, 6)), ("not", ("both", ("any",), test))
        self.told((((None, test),), ((0, 0, "all", way),), ()), True)
        self.told((((None, ("not", test + (1,))),), ((0, 0, "all", way),), ()), False)

    def test_what_is_handed_in_stays(self):
        thing = (SPOTS, [BOWS[0], list(BOWS[1])], PAIRS)
        kept = repr(thing)
        self.told(thing, False)
        self.assertEqual(repr(thing), kept)


if __name__ == "__main__":
    unittest.main()
