"""Points 7 and 8: ways, the rows that they tell, their rests."""

import itertools
import random
import unittest

from making import all_rows, all_steps, is_number, odd_things, random_way, row_by_chance, rows_told, same_kinds, spoiled
from webstore.values import is_name
from webstore.ways import is_endless, is_way, least_steps, rests, tells, turned

AF, AB = ("a", "forth"), ("a", "back")
BF, BB = ("b", "forth"), ("b", "back")
A, B = ("step", "a", "forth"), ("step", "b", "forth")
ANY = ("step", None, "either")
EMPTY = ("empty",)
FORMS = (A, ("step", None, "back"), ("step", "abcdefgh", "either"), EMPTY, ("then", A, B), ("or", A, EMPTY),
         ("again", A), ("many", A, 0, 0), ("many", A, 0, 6), ("many", A, 6, 6), ("many", A, 2, 3))
DEEPER = (("then", ("or", A, B), ("again", ("many", ("or", ANY, EMPTY), 1, 2))),
          ("many", ("again", ("then", ("then", A, B), ("or", EMPTY, A))), 0, 3))
KINDS = ("a", "b")


def judged(thing):
    """Whether a thing is a way, told in another manner: by its word's parts."""
    parts = {"step": "kt", "empty": "", "then": "ww", "or": "ww", "again": "w", "many": "wnn"}
    judges = {"k": lambda part: part is None or is_name(part), "w": judged, "n": is_number,
              "t": lambda part: isinstance(part, str) and part in ("forth", "back", "either")}
    if not isinstance(thing, tuple) or not thing or not isinstance(thing[0], str) or thing[0] not in parts:
        return False
    wanted = parts[thing[0]]
    if len(thing) != len(wanted) + 1 or not all(judges[sort](part) for sort, part in zip(wanted, thing[1:])):
        return False
    return thing[0] != "many" or (thing[2] in range(7) and thing[3] in range(7) and thing[2] <= thing[3])


def turned_row(row):
    """A row gone the other way about."""
    return tuple((kind, "back" if turn == "forth" else "forth") for kind, turn in reversed(row))


def all_rests(way, kinds=("a", "b", "zz")):
    """A dict from each way that comes of a way by rests again and again, itself too, to its rests."""
    found, queue = {}, [way]
    while queue:
        here = queue.pop()
        if here not in found:
            found[here] = [rest for step in all_steps(kinds) for rest in rests(here, *step)]
            queue += found[here]
    return found


def told_by_rests(way, steps):
    """Whether a way tells a row, gone step by step through its rests."""
    here = {way}
    for step in steps:
        here = {rest for each in here for rest in rests(each, *step)}
    return any(least_steps(each) == 0 for each in here)


class Form(unittest.TestCase):
    def test_each_form(self):
        for thing in FORMS + DEEPER:
            self.assertIs(is_way(thing), True, thing)

    def test_each_turn_and_kind(self):
        for kind, turn in itertools.product((None, "a", "zzzzzzzz"), ("forth", "back", "either")):
            self.assertIs(is_way(("step", kind, turn)), True)

    def test_part_too_few_and_too_many(self):
        for thing in FORMS + DEEPER:
            self.assertIs(is_way(thing[:-1]), False, thing)
            for more in (None, "a", 0, A, True, "forth"):
                self.assertIs(is_way(thing + (more,)), False, thing)

    def test_wrong_words(self):
        for thing in FORMS + DEEPER:
            for word in ("any", "Step", "", None, 0, True, ["step"], ("step",), "steps"):
                self.assertIs(is_way((word,) + thing[1:]), False, (word,) + thing[1:])

    def test_kind_that_is_no_name(self):
        for kind in ("", "A", "abcdefghi", "a1", "a ", 0, 1, True, False, ("a",), ["a"], [], ()):
            self.assertIs(is_way(("step", kind, "forth")), False, kind)

    def test_turn_that_is_none(self):
        for turn in ("", "Forth", "both", "any", None, 0, True, ("forth",), ["forth"], [], ()):
            self.assertIs(is_way(("step", "a", turn)), False, turn)
            self.assertIs(is_way(("again", ("step", None, turn))), False, turn)

    def test_bounds_of_many(self):
        for low, high in itertools.product(range(-2, 9), repeat=2):
            self.assertIs(is_way(("many", A, low, high)), 0 <= low <= high <= 6, (low, high))
        for thing in (True, False, None, "1", (), [], (1,)):
            self.assertIs(is_way(("many", A, thing, 6)), False, thing)
            self.assertIs(is_way(("many", A, 0, thing)), False, thing)
            self.assertIs(is_way(("many", A, thing, thing)), False, thing)

    def test_list_for_a_tuple(self):
        for thing in FORMS + DEEPER:
            for other in (list(thing), ("again", list(thing)), ("then", thing, list(thing)), ("or", list(thing), thing),
                          ("many", list(thing), 0, 1)):
                self.assertIs(is_way(other), False, other)

    def test_spoiled_ones(self):
        for thing in FORMS + DEEPER:
            for other in spoiled(thing):
                self.assertIs(is_way(other), judged(other), repr(other))

    def test_of_any_thing_true_or_false(self):
        for thing in odd_things():
            self.assertIs(is_way(thing), judged(thing), repr(thing))
            for other in (("then", A, thing), ("again", thing), ("many", thing, 0, 1)):
                self.assertIs(is_way(other), judged(thing), repr(other))

    def test_bounds_are_not_looked_at(self):
        thing = A
        for _ in range(7):
            thing = ("again", ("then", A, thing))
        self.assertIs(is_way(thing), True)
        self.assertIs(is_way(("many", thing[:1] + (list(A),), 0, 1)), False)


class Tells(unittest.TestCase):
    def check(self, way, told, untold):
        for row in told:
            self.assertIs(tells(way, row), True, (way, row))
            self.assertIs(tells(way, list(row)), True, (way, row))
        for row in untold:
            self.assertIs(tells(way, row), False, (way, row))
            self.assertIs(tells(way, list(row)), False, (way, row))

    def test_step(self):
        self.check(A, [(AF,)], [(), (AB,), (BF,), (AF, AF)])
        self.check(("step", "a", "back"), [(AB,)], [(), (AF,), (BB,)])
        self.check(("step", "a", "either"), [(AF,), (AB,)], [(), (BF,), (BB,), (AF, AB)])
        self.check(("step", None, "forth"), [(AF,), (BF,), (("zz", "forth"),)], [(), (AB,), (("zz", "back"),)])
        self.check(ANY, [(AF,), (BB,), (("zz", "back"),)], [(), (AF, AF)])

    def test_empty_then_or(self):
        self.check(EMPTY, [()], [(AF,), (AF, AF)])
        self.check(("then", A, B), [(AF, BF)], [(), (AF,), (BF,), (BF, AF), (AF, BF, BF), (AF, BB)])
        self.check(("or", A, B), [(AF,), (BF,)], [(), (AF, BF), (AB,)])
        self.check(("then", EMPTY, EMPTY), [()], [(AF,)])

    def test_again_and_many(self):
        self.check(("again", A), [(), (AF,), (AF,) * 40], [(AB,), (AF,) * 39 + (BF,), (BF,) + (AF,) * 39])
        self.check(("many", A, 2, 4), [(AF,) * n for n in (2, 3, 4)], [(AF,) * n for n in (0, 1, 5, 6)])
        self.check(("many", A, 0, 0), [()], [(AF,)])
        self.check(("many", ("or", A, EMPTY), 3, 3), [(AF,) * n for n in range(4)], [(AF,) * 4])
        self.check(("again", ("then", A, B)), [(), (AF, BF) * 20], [(AF, BF) * 19 + (AF,), (BF, AF) * 20])
        self.check(("many", ("many", A, 2, 2), 6, 6), [(AF,) * 12], [(AF,) * 11, (AF,) * 13])
        self.check(("again", EMPTY), [()], [(AF,)])

    def test_all_short_rows(self):
        chance = random.Random(7)
        rows = all_rows(KINDS + ("zz",), 3)
        for count in range(400):
            way = random_way(chance, 1 + count % 12)
            told = rows_told(way, KINDS + ("zz",), 3)
            for row in rows:
                self.assertIs(tells(way, row), row in told, (way, row))

    def test_spoiled_rows(self):
        chance = random.Random(8)
        for count in range(150):
            way = random_way(chance, 4 + count % 9, 1)
            row = row_by_chance(chance, way, KINDS)[:40]
            if not row:
                continue
            at, other = chance.randrange(len(row)), chance.randrange(len(row))
            exchanged = list(row)
            exchanged[at], exchanged[other] = row[other], row[at]
            for spoilt in (row[:at] + row[at + 1:], row[:at] + row[at:at + 1] + row[at:], tuple(exchanged),
                           row[:at] + turned_row(row[at:at + 1]) + row[at + 1:],
                           row[:at] + (("nowhere", row[at][1]),) + row[at + 1:]):
                self.assertIs(tells(way, spoilt), told_by_rests(way, spoilt), (way, spoilt))

    def test_rows_of_forty_steps(self):
        inner = ("or", ("or", A, ("then", A, A)), ("then", A, ("then", A, A)))
        for way in (("again", ("again", inner)), ("again", ("many", inner, 0, 6)), ("many", ("again", inner), 0, 6),
                    ("many", ("many", inner, 0, 6), 0, 6)):
            self.check(way, [(AF,) * 39, (AF,) * 40], [(AF,) * 39 + (AB,), (AF,) * 20 + (BF,) + (AF,) * 19])

    def test_long_rows_by_chance(self):
        chance = random.Random(9)
        seen = 0
        for _ in range(1500):
            way = random_way(chance, 12, 2)
            row = row_by_chance(chance, way, KINDS)
            if len(row) > 40:
                continue
            seen += len(row) > 15
            self.assertIs(tells(way, row), True, (way, row))
        self.assertGreater(seen, 100)

    def test_random_long_rows(self):
        chance = random.Random(10)
        for _ in range(150):
            way = ("again", ("or", random_way(chance, 5, 1), random_way(chance, 5, 1)))
            row = tuple(chance.choice(all_steps(KINDS)) for _ in range(40))
            self.assertIs(tells(way, row), told_by_rests(way, row), (way, row))

    def test_steps_that_are_handed_in_stay(self):
        steps = [AF, BF, AF]
        tells(("again", ANY), steps)
        self.assertEqual(steps, [AF, BF, AF])


class LeastSteps(unittest.TestCase):
    def test_each_form(self):
        for way, wanted in ((A, 1), (EMPTY, 0), (("then", A, B), 2), (("or", ("then", A, B), A), 1),
                            (("or", A, EMPTY), 0), (("again", A), 0), (("many", A, 0, 6), 0), (("many", A, 4, 6), 4),
                            (("many", ("then", A, ("many", B, 2, 3)), 6, 6), 18), (("many", EMPTY, 5, 6), 0),
                            (("then", ("again", A), B), 1)):
            self.assertEqual(least_steps(way), wanted, way)

    def test_the_shortest_row(self):
        chance = random.Random(11)
        for count in range(400):
            way = random_way(chance, 1 + count % 12)
            told = rows_told(way, KINDS, 3)
            least = least_steps(way)
            self.assertTrue(is_number(least))
            if told:
                self.assertEqual(least, min(map(len, told)), way)
            else:
                self.assertGreater(least, 3, way)


class Turned(unittest.TestCase):
    def test_each_form(self):
        self.assertIs(tells(turned(A), (AB,)), True)
        self.assertIs(tells(turned(A), (AF,)), False)
        self.assertIs(tells(turned(("step", "a", "back")), (AF,)), True)
        both = turned(("step", "a", "either"))
        self.assertIs(tells(both, (AF,)) and tells(both, (AB,)), True)
        self.assertIs(tells(turned(("then", A, B)), (BB, AB)), True)
        self.assertIs(tells(turned(("then", A, B)), (AB, BB)), False)

    def test_just_the_rows_turned(self):
        chance = random.Random(12)
        for count in range(300):
            way = random_way(chance, 1 + count % 12)
            other = turned(way)
            self.assertIs(is_way(other), True)
            told = rows_told(way, KINDS, 3)
            self.assertEqual(rows_told(other, KINDS, 3), {turned_row(row) for row in told}, way)
            self.assertEqual(rows_told(turned(other), KINDS, 3), told, way)
            self.assertEqual(least_steps(other), least_steps(way))
            self.assertIs(is_endless(other), is_endless(way))

    def test_long_rows_turned(self):
        chance = random.Random(13)
        for _ in range(300):
            way = random_way(chance, 12)
            row = row_by_chance(chance, way, KINDS)[:40]
            self.assertIs(tells(turned(way), turned_row(row)), tells(way, row), (way, row))
            self.assertIs(tells(turned(turned(way)), row), tells(way, row), (way, row))


class Endless(unittest.TestCase):
    def test_each_form(self):
        ring = ("again", A)
        for way, wanted in ((A, False), (EMPTY, False), (("then", A, B), False), (("or", A, B), False), (ring, True),
                            (("many", A, 0, 6), False), (("many", ring, 0, 1), True), (("many", ring, 0, 0), False),
                            (("then", ring, EMPTY), True), (("then", A, ring), True), (("or", EMPTY, ring), True),
                            (("or", ring, A), True), (("again", EMPTY), False), (("again", ("again", EMPTY)), False),
                            (("again", ("then", EMPTY, ("or", EMPTY, EMPTY))), False),
                            (("again", ("many", A, 0, 0)), False), (("again", ("many", ring, 0, 0)), False),
                            (("again", ("many", EMPTY, 3, 6)), False), (("again", ("many", A, 0, 1)), True),
                            (("again", ("or", EMPTY, A)), True), (("again", ("then", A, EMPTY)), True),
                            (("again", ("again", A)), True), (("many", ("again", EMPTY), 1, 6), False)):
            self.assertIs(is_endless(way), wanted, way)

    def test_rests_that_come_again(self):
        # Each way tells some row, so a way is endless just where its rests can be gone without end.
        chance = random.Random(14)
        seen = set()
        for count in range(600):
            way = random_way(chance, 1 + count % 12, 2, 3)
            wanted = goes_round(all_rests(way))
            seen.add(wanted)
            self.assertIs(is_endless(way), wanted, way)
        self.assertEqual(seen, {True, False})


def goes_round(after):
    """Whether a dict from things to what comes behind them has a ring."""
    left = dict(after)
    while left:
        last = [thing for thing, further in left.items() if not any(each in left for each in further)]
        if not last:
            return True
        for thing in last:
            del left[thing]
    return False


class Rests(unittest.TestCase):
    def test_plain_ones(self):
        for way in FORMS + DEEPER:
            for step in all_steps(KINDS + ("zz",)):
                found = rests(way, *step)
                self.assertIs(type(found), list)
                self.assertTrue(all(is_way(rest) for rest in found), found)
                self.assertEqual(len(set(found)), len(found), found)

    def test_kind_that_is_named_nowhere(self):
        self.assertEqual(rests(("then", A, B), "zz", "forth"), [])
        self.assertEqual(rests(EMPTY, "zz", "forth"), [])
        self.assertEqual(rests(("many", A, 0, 0), "a", "forth"), [])
        for rest in rests(("then", ("step", None, "forth"), B), "zz", "forth"):
            self.assertEqual(rows_told(rest, KINDS, 3), {(BF,)})
        self.assertEqual(rests(("then", ("step", None, "forth"), B), "zz", "back"), [])

    def test_just_what_is_behind_a_step(self):
        chance = random.Random(15)
        kinds = KINDS + ("zz",)
        for count in range(250):
            way = random_way(chance, 1 + count % 12)
            told = rows_told(way, kinds, 3)
            for step in all_steps(kinds):
                behind = set().union(*[rows_told(rest, kinds, 2) for rest in rests(way, *step)])
                self.assertEqual(behind, {row[1:] for row in told if row[:1] == (step,)}, (way, step))

    def test_what_is_behind_in_long_rows(self):
        chance = random.Random(16)
        for _ in range(400):
            way = random_way(chance, 12)
            row = row_by_chance(chance, way, KINDS)[:40]
            for cut in (row, row[:-1], row + (AF,)):
                if cut:
                    behind = any(tells(rest, cut[1:]) for rest in rests(way, *cut[0]))
                    self.assertIs(behind, tells(way, cut), (way, cut))

    def test_at_most_three_hundred(self):
        inner = A
        for step in (("step", "a", "either"), B, ANY, A):
            inner = ("then", step, inner)
        long = [("many", ("many", inner, low, 6), least, 6) for low in (0, 3, 6) for least in (0, 3, 6)]
        long += [("again", ("many", inner, 0, 6)), ("many", ("again", inner), 6, 6), ("again", ("again", inner))]
        chance = random.Random(17)
        for way in long + [random_way(chance, 12) for _ in range(300)]:
            found = all_rests(way)
            self.assertLessEqual(len(found), 300, way)
            self.assertTrue(all(is_way(rest) for rest in found), way)

    def test_told_lists_are_the_asker_s_own(self):
        for way in FORMS + DEEPER:
            first = rests(way, "a", "forth")
            before = list(first)
            again = rests(way, "a", "forth")
            self.assertIsNot(first, again)
            first.append(A)
            first.reverse()
            self.assertTrue(same_kinds(again, before))
            self.assertTrue(same_kinds(rests(way, "a", "forth"), before))


if __name__ == "__main__":
    unittest.main()
