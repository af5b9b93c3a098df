"""Point 8: apart."""

import random
import unittest

from making import all_rows, all_steps, random_way, rows_told
from webstore.apart import apart
from webstore.values import is_name
from webstore.ways import least_steps, rests, tells, turned

A, B = ("step", "a", "forth"), ("step", "b", "forth")
ANY, FORTH = ("step", None, "either"), ("step", None, "forth")
EMPTY = ("empty",)

ALIKE = (
    (A, A), (("or", A, B), ("or", B, A)), (("or", A, A), A), (("then", A, EMPTY), A), (("then", EMPTY, A), A),
    (("then", ("then", A, B), A), ("then", A, ("then", B, A))), (("again", ("again", A)), ("again", A)),
    (("again", ("or", A, EMPTY)), ("again", A)), (("many", A, 1, 1), A), (("many", A, 0, 0), EMPTY),
    (("many", A, 2, 2), ("then", A, A)), (("many", A, 0, 1), ("or", EMPTY, A)),
    (("many", ("or", A, EMPTY), 3, 3), ("many", A, 0, 3)), (("again", EMPTY), EMPTY),
    (("again", ("many", EMPTY, 0, 3)), EMPTY), (("then", ("again", A), ("again", A)), ("again", A)),
    (("or", EMPTY, ("then", A, ("again", A))), ("again", A)), (("again", ("many", A, 0, 3)), ("again", A)),
    (("many", ("again", A), 1, 3), ("again", A)), (("many", ("many", A, 0, 2), 0, 2), ("or", ("many", A, 0, 3),
                                                                                      ("many", ("then", A, A), 2, 2))),
    (("many", ("many", A, 1, 3), 1, 1), ("many", A, 1, 3)), (("many", ("many", A, 2, 2), 1, 1), ("then", A, A)),
    (("or", FORTH, ("step", None, "back")), ANY), (("or", ANY, ("step", "a", "either")), ANY),
    (("or", A, ("step", "a", "back")), ("step", "a", "either")), (("or", FORTH, A), FORTH),
    (("again", ("or", A, B)), ("again", ("then", ("again", A), ("again", B)))),
    (("then", A, ("again", ("then", B, A))), ("then", ("again", ("then", A, B)), A)),
)

UNLIKE = (
    (A, B, 1), (A, EMPTY, 0), (("again", A), EMPTY, 1), (("again", A), A, 0), (("many", A, 1, 3), ("many", A, 1, 2), 3),
    (("many", A, 1, 3), ("many", A, 2, 3), 1), (("then", A, B), ("then", B, A), 2), (FORTH, A, 1), (ANY, FORTH, 1),
    (("many", ("many", A, 3, 3), 3, 3), ("many", ("many", A, 3, 3), 2, 3), 6),
    (("many", ("many", A, 2, 3), 3, 3), ("many", ("many", A, 3, 3), 2, 3), 7),
    (("then", ("again", ANY), ("then", A, ("many", ANY, 3, 3))),
     ("then", ("again", ANY), ("then", B, ("many", ANY, 3, 3))), 4),
    (("many", ("then", A, A), 0, 3), ("again", ("then", A, A)), 8), (("again", ("many", A, 2, 3)), ("again", A), 1),
)


def is_step(thing):
    return isinstance(thing, tuple) and len(thing) == 2 and is_name(thing[0]) and thing[1] in ("forth", "back")


def row_apart(one, other, kinds):
    """A row of the fewest steps that just one of two ways tells, or None, gone through sets of rests."""
    here = [((), frozenset([one]), frozenset([other]))]
    seen = set()
    for row, first, second in here:
        if any(least_steps(way) == 0 for way in first) != any(least_steps(way) == 0 for way in second):
            return row
        for step in all_steps(kinds):
            pair = [frozenset(rest for way in ways for rest in rests(way, *step)) for ways in (first, second)]
            if tuple(pair) not in seen:
                seen.add(tuple(pair))
                here.append((row + (step,), *pair))
    return None


def written_otherwise(chance, way):
    """A way that tells the same rows."""
    word, parts = way[0], [written_otherwise(chance, part) for part in way[1:] if isinstance(part, tuple)]
    turn = chance.random()
    if word == "step":
        if way[2] == "either" and turn < 0.5:
            return ("or", ("step", way[1], "back"), ("step", way[1], "forth"))
        return ("then", EMPTY, way) if turn < 0.3 else way
    if word == "empty":
        return ("many", A, 0, 0)
    if word == "or":
        return ("or", parts[1], parts[0])
    if word == "then":
        if way[1][0] == "then":
            return ("then", way[1][1], ("then", way[1][2], parts[1]))
        return ("then", *parts)
    if word == "again":
        return ("again", ("or", EMPTY, parts[0])) if turn < 0.5 else ("or", EMPTY, ("then", parts[0], way))
    if way[2] == 0:
        return ("many", ("or", parts[0], EMPTY), way[3], way[3])
    return ("then", parts[0], ("many", parts[0], way[2] - 1, way[3] - 1))


class Apart(unittest.TestCase):
    def check_row(self, one, other, row):
        """A told row is a tuple of steps that just one of both tells."""
        self.assertIsInstance(row, tuple)
        self.assertTrue(all(is_step(step) for step in row), row)
        self.assertIsNot(tells(one, row), tells(other, row), (one, other, row))

    def test_alike(self):
        for one, other in ALIKE:
            self.assertIsNone(apart(one, other), (one, other))
            self.assertIsNone(apart(other, one), (one, other))
            self.assertIsNone(apart(turned(one), turned(other)), (one, other))

    def test_unlike(self):
        for one, other, least in UNLIKE:
            for first, second in ((one, other), (other, one), (turned(one), turned(other))):
                row = apart(first, second)
                self.check_row(first, second, row)
                self.assertEqual(len(row), least, (first, second))

    def test_any_kind_beside_single_kinds(self):
        kinds = [("step", kind, "forth") for kind in "abcz"]
        single = ("or", ("or", kinds[0], kinds[1]), ("or", kinds[2], kinds[3]))
        row = apart(single, FORTH)
        self.check_row(single, FORTH, row)
        self.assertEqual(len(row), 1)
        self.assertNotIn(row[0][0], "abcz")
        self.assertEqual(row[0][1], "forth")
        self.assertIsNone(apart(("or", single, FORTH), FORTH))

    def test_a_kind_that_is_named_nowhere_is_no_named_one(self):
        for kinds in (("aa", "ab", "ac"), ("a", "aa", "aaa"), ("x", "y", "z"), ("zz", "zy", "ab")):
            steps = [("step", kind, "either") for kind in kinds]
            single = ("or", steps[0], ("or", steps[1], steps[2]))
            row = apart(("again", single), ("again", ANY))
            self.check_row(("again", single), ("again", ANY), row)
            self.assertNotIn(row[0][0], kinds)

    def test_written_otherwise(self):
        chance = random.Random(18)
        for count in range(500):
            way = random_way(chance, 1 + count % 8, 2, 3)
            other = written_otherwise(chance, way)
            self.assertIsNone(apart(way, other), (way, other))

    def test_by_chance_against_all_short_rows(self):
        chance = random.Random(19)
        kinds = ("a", "b", "zz")
        rows = all_rows(kinds, 3)
        for count in range(300):
            one, other = random_way(chance, 1 + count % 8, 2, 3), random_way(chance, 1 + count % 5, 2, 3)
            told = [rows_told(way, kinds, 3) for way in (one, other)]
            wanted = [row for row in rows if (row in told[0]) != (row in told[1])]
            row = apart(one, other)
            if row is not None:
                self.check_row(one, other, row)
            if wanted:
                self.assertEqual(len(row), len(wanted[0]), (one, other))
            else:
                self.assertTrue(row is None or len(row) > 3, (one, other))

    def test_by_chance_against_sets_of_rests(self):
        chance = random.Random(20)
        for count in range(400):
            one = random_way(chance, 4 + count % 5, 2, 3)
            other = ("or", one, random_way(chance, 3, 1, 3)) if count % 2 else random_way(chance, 8, 2, 3)
            row, wanted = apart(one, other), row_apart(one, other, ("a", "b", "zz"))
            self.assertEqual(row is None, wanted is None, (one, other))
            if row is not None:
                self.check_row(one, other, row)
                self.assertEqual(len(row), len(wanted), (one, other))

    def test_told_the_same_again(self):
        for one, other, _ in UNLIKE:
            self.assertEqual(apart(one, other), apart(one, other))


if __name__ == "__main__":
    unittest.main()
