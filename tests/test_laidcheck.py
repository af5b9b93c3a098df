"""Point 15: the checker of laid rows."""

import random
import unittest

from laying import SORTS, SPOT, count_tried, pair_so, random_field_store, random_pattern, town_store, walk_counts
from making import is_number, odd_things
from trying import AF, ANY, BF, EMPTY, FORTH, ROAD, STAR, is_plain, line_of, rows_of_legs, store_of
from webstore.asking import laid, witness
from webstore.errors import TooMany
from webstore.fitting import fits
from webstore.laidcheck import shows_laid
from webstore.store import rows_of

ROWS = (list, tuple)
FAR = (2, 6, -1, -10 ** 12, 999, 10 ** 12 - 1)


def judged(store, pattern, row, told):
    """Whether a row lays a pattern and told is its walks, by the words of the document; few legs alone."""
    if not isinstance(row, ROWS) or not isinstance(told, ROWS):
        return False
    if len(row) != len(pattern[0]) or len(told) != len(pattern[1]):
        return False
    for (kind, test), place in zip(pattern[0], row):
        if not is_number(place) or place not in store.places():
            return False
        if kind not in (None, store.place(place)[0]) or not fits(test, store.place(place)[1]):
            return False
    if not all(pair_so(store, pair, row) for pair in pattern[2]):
        return False
    for bow, walk in zip(pattern[1], told):
        if not isinstance(walk, ROWS) or not all(isinstance(leg, tuple) and len(leg) == 2 and is_number(leg[0])
                                                 and leg[1] in ("forth", "back") for leg in walk):
            return False
        if not walk_counts(store, bow, row[bow[0]], row[bow[1]], walk):
            return False
    return True


class ShowsLaid(unittest.TestCase):
    def setUp(self):
        self.store = town_store()
        self.pattern = ((("p", ("any",)), SPOT, SPOT), ((0, 1, "all", AF), (1, 2, "short", BF)), (("unlike", 0, 2),))
        self.row = (1, 3, 4)
        self.walks = [((1, "forth"),), ((3, "forth"),)]

    def shows(self, row, told, wanted):
        self.assertIs(shows_laid(self.store, self.pattern, row, told), wanted, (row, told))

    def test_right_ones(self):
        self.shows(self.row, self.walks, True)
        self.shows(self.row, [((2, "forth"),), ((3, "forth"),)], True)
        self.shows(self.row, witness(self.store, self.pattern, self.row), True)

    def test_lists_and_tuples(self):
        for make in ROWS:
            for outer in ROWS:
                for inner in ROWS:
                    self.shows(make(self.row), outer(inner(walk) for walk in self.walks), True)
        self.shows(self.row, [[[1, "forth"]], [(3, "forth")]], False)
        self.shows(self.row, [((1, "forth"),), ([3, "forth"],)], False)

    def test_a_walk_left_out_and_one_more(self):
        self.shows(self.row, self.walks[:1], False)
        self.shows(self.row, self.walks[1:], False)
        self.shows(self.row, [], False)
        self.shows(self.row, (), False)
        self.shows(self.row, self.walks + [()], False)
        self.shows(self.row, self.walks + self.walks[1:], False)
        self.shows(self.row, [()] + self.walks, False)

    def test_another_bow_s_walk(self):
        one, other = self.walks
        for told in ([other, one], [one, one], [other, other]):
            self.shows(self.row, told, False)

    def test_a_walk_that_is_none(self):
        one, other = self.walks
        for walk in ((), None, True, 0, "", "ab", (None,), ((),), ((1, "back"),), ((0, "forth"),), ((9, "forth"),),
                     ((-1, "forth"),), ((True, "forth"),), ((1, "either"),), ((1,),), ((1, "forth", 3),), (1, "forth"),
                     one + one, one + other, (one,), (("1", "forth"),)):
            self.shows(self.row, [walk, other], False)
            self.shows(self.row, [one, walk], False)

    def test_true_for_a_number(self):
        self.store = store_of(2, [("a", 0, 1), ("a", 0, 1)])
        self.pattern = ((SPOT, SPOT), ((0, 1, "any", AF),), ())
        self.shows((0, 1), [((1, "forth"),)], True)
        self.shows((0, 1), [((True, "forth"),)], False)
        self.shows((0, 1), [((False, "forth"),)], False)
        for row in ((0, True), (False, 1), (False, True)):
            self.shows(row, [((1, "forth"),)], False)
        self.pattern = ((SPOT,), (), ())
        for row, wanted in (((0,), True), ((1,), True), ((True,), False), ((False,), False)):
            self.shows(row, [], wanted)

    def test_not_of_the_fewest_legs(self):
        self.store = store_of(3, [("a", 0, 2), ("a", 0, 1), ("a", 1, 2), ("a", 2, 2), ("a", 0, 2)])
        for sort in SORTS:
            for walk in ((0,), (4,), (1, 2), (0, 3), (1, 2, 3), (0, 3, 3)):
                legs = tuple((tie, "forth") for tie in walk)
                self.pattern = ((SPOT, SPOT), ((0, 1, sort, ROAD),), ())
                wanted = len(walk) == 1 if sort == "short" else 3 not in walk if sort == "plain" else True
                self.shows((0, 2), [legs], wanted)
                self.pattern = ((SPOT, SPOT), ((0, 1, sort, ("many", FORTH, 2, 6)),), ())
                wanted = wanted and len(walk) > 1 if sort != "short" else len(walk) == 2
                self.shows((0, 2), [legs], wanted)
                self.shows((0, 1), [legs], False)

    def test_a_place_twice(self):
        self.store = store_of(3, [("a", 0, 1), ("a", 1, 0), ("a", 1, 2), ("a", 1, 1)])
        for walk in ((0, 1, 0, 2), (0, 3, 2), (0, 2)):
            legs = tuple((tie, "forth") for tie in walk)
            for sort in ("all", "any", "plain"):
                self.pattern = ((SPOT, SPOT), ((0, 1, sort, ROAD),), ())
                self.shows((0, 2), [legs], sort != "plain" or walk == (0, 2))
        # Where it begins and ends counts, too.
        self.pattern = ((SPOT,), ((0, 0, "plain", ROAD),), ())
        self.shows((0,), [((0, "forth"), (1, "forth"))], False)
        self.shows((0,), [()], True)
        self.pattern = ((SPOT,), ((0, 0, "all", ROAD),), ())
        self.shows((0,), [((0, "forth"), (1, "forth"))], True)

    def test_rows_that_do_not_lay_it(self):
        for row in ((0, 3, 4), (1, 4, 3), (1, 3, 5), (1, 3, 3), (0, 1, 3), (), (1,), (1, 3), (1, 3, 4, 4), (1, 3, 4, 0)):
            self.shows(row, self.walks, False)
        for n in FAR:
            for row in ((n, 3, 4), (1, n, 4), (1, 3, n)):
                self.shows(row, self.walks, False)
        spots, bows, pairs = self.pattern
        for other in (((("q", ("any",)),) + spots[1:], bows, pairs), (spots[:2] + (("p", ("any",)),), bows, pairs),
                      (((None, ("is", "u", 1)),) + spots[1:], bows, pairs), (spots, bows, pairs + (("unlike", 1, 1),)),
                      (spots, bows, (("same", 0, "u", 1, "u"),)), (spots, bows, (("under", 0, "u", 1, "u"),)),
                      (spots, bows, (("same", 0, "u", 1, "w"),))):
            self.pattern = other
            self.shows(self.row, self.walks, False)
        self.pattern = (spots, bows, (("under", 1, "u", 0, "u"), ("under", 0, "u", 1, "v")))
        self.shows(self.row, self.walks, True)

    def test_no_bows(self):
        self.pattern = ((SPOT, SPOT), (), (("unlike", 0, 1),))
        for told in ([], ()):
            self.shows((0, 1), told, True)
            self.shows((1, 1), told, False)
        for told in ([()], [[]], None, "", 0, False):
            self.shows((0, 1), told, False)

    def test_things_that_are_no_lists(self):
        for told in (None, True, False, 0, 2, "", "ab", [None, None], [True, True], ["a", "b"], self.walks[0]):
            self.shows(self.row, told, False)
        for row in (None, True, 0, 1, "", "abc", (None, None, None), ("1", "3", "4"), ([1], [3], [4]), ((1, 3, 4),)):
            self.shows(row, self.walks, False)

    def test_of_any_thing_true_or_false(self):
        self.pattern = ((SPOT,), ((0, 0, "any", EMPTY),), ())
        for thing in odd_things():
            for told in (thing, [thing], ((), thing), [(thing,)]):
                wanted = isinstance(told, ROWS) and len(told) == 1 and told[0] in ((), [])
                self.assertIs(shows_laid(self.store, self.pattern, (0,), told), wanted, repr(told))
            self.assertIs(shows_laid(self.store, self.pattern, thing, [()]),
                          judged(self.store, self.pattern, thing, [()]), repr(thing))
        self.pattern = ((SPOT,) * 2, ((0, 1, "short", AF),), ())
        for thing in odd_things():
            for told in ([((thing, "forth"),)], [((0, thing),)], [(thing, (0, "forth"))], [((0, "forth"),), thing]):
                wanted = told == [((0, "forth"),)] and thing is not False
                self.assertIs(shows_laid(self.store, self.pattern, (0, 1), told), wanted, repr(told))

    def test_where_the_count_is_without_end_or_far_too_many(self):
        self.store = line_of(*[3] * 39)
        self.store.add_tie("b", 39, 0, {})
        walk = tuple((3 * n, "forth") for n in range(39))
        for sort in SORTS:
            self.pattern = ((SPOT, SPOT), ((0, 1, sort, ROAD),), ())
            self.shows((0, 39), [walk], True)
            self.shows((0, 39), [walk + ((117, "forth"),) + walk], sort in ("all", "any"))
            self.shows((0, 38), [walk], False)

    def test_told_by_chance(self):
        chance = random.Random(56)
        seen = []
        for count in range(1200):
            self.store = random_field_store(chance)
            self.pattern = random_pattern(chance, 1 + count % 3, chance.randrange(1, 3), chance.choice((0, 0, 1)))
            row = tuple(chance.choice(self.store.places()) for _ in self.pattern[0])
            if laid(self.store, self.pattern, row) != 0:
                told = witness(self.store, self.pattern, row)
                seen.append("witness")
                self.shows(row, told, True)
                other = tuple(chance.choice(self.store.places()) for _ in self.pattern[0])
                if all(len(walk) < 5 for walk in told):
                    self.shows(other, told, judged(self.store, self.pattern, other, told))
        self.assertGreater(seen.count("witness"), 60)

    def test_walks_by_chance(self):
        chance = random.Random(57)
        seen = []
        for count in range(1500):
            self.store = random_field_store(chance, 4)
            bow = (0, 1, SORTS[count % 4], chance.choice((STAR, ROAD, ("many", ANY, 1, 3), ("or", AF, ("again", BF)))))
            self.pattern = ((SPOT,) * 2, (bow,), ())
            rows = rows_of_legs(self.store, self.store.places()[0], 3)
            if rows is not None:
                walk, end = chance.choice(rows)
                row = (self.store.places()[0], end)
                wanted = judged(self.store, self.pattern, row, [walk])
                seen.append((bow[2], wanted, is_plain(self.store, row[0], walk)))
                self.shows(row, [walk], wanted)
                try:
                    self.assertLessEqual(wanted, count_tried(self.store, self.pattern, row) != 0)
                except TooMany:
                    pass
        for sort in SORTS:
            self.assertGreater(seen.count((sort, True, True)), 20)
            self.assertGreater(seen.count((sort, False, True)), 20)
        self.assertEqual(seen.count(("plain", True, False)), 0)

    def test_what_is_handed_in_stays(self):
        rows = rows_of(self.store)
        row, told = list(self.row), [list(walk) for walk in self.walks]
        self.shows(row, told, True)
        self.shows(row, told, True)
        self.assertEqual((row, told), (list(self.row), [list(walk) for walk in self.walks]))
        self.assertEqual(rows_of(self.store), rows)


if __name__ == "__main__":
    unittest.main()
