"""Point 18: what a rule is, and what breaks it."""

import itertools
import random
import unittest

from laying import SPOT, lone_store, random_field_store, random_pattern, rows_tried, town_store
from making import is_number, odd_things, random_way, same_kinds, spoiled
from trying import AB, AF, ANY, BF, EMPTY, FORTH, ROAD, STAR, line_of, rows_of_legs, steps_of, store_of
from webstore.asking import ask
from webstore.errors import NoEnd, TooMany
from webstore.patterns import is_pattern
from webstore.rules import breach, is_rule
from webstore.store import Store, rows_of
from webstore.values import is_name
from webstore.ways import is_way, tells

PATTERN = ((SPOT, ("p", ("has", "u"))), ((0, 1, "all", AF),), (("unlike", 0, 1),))
RULES = (("field", "aa", "p", "u", "number"), ("field", "abcdefgh", "p", "u", "text"), ("ends", "aa", "a", "p", "q"),
         ("alone", "aa", "p", "u"), ("many", "aa", "p", "a", "forth", 0, 3), ("many", "aa", "p", "a", "back", 2, 2),
         ("many", "aa", "p", "a", "back", 0, 10 ** 12), ("never", "aa", PATTERN), ("ringless", "aa", ROAD))
FORMS = {"field": "wnnns", "ends": "wnnnn", "alone": "wnnn", "many": "wnnntii", "never": "wnp", "ringless": "wny"}


def judged(thing):
    """Whether a thing is a rule, told in another manner: by the form of its sort."""
    if not isinstance(thing, tuple) or not thing or not isinstance(thing[0], str) or thing[0] not in FORMS:
        return False
    judges = {"w": lambda part: True, "n": is_name, "p": is_pattern, "y": is_way,
              "s": lambda part: isinstance(part, str) and part in ("number", "text"),
              "t": lambda part: isinstance(part, str) and part in ("forth", "back"),
              "i": lambda part: is_number(part) and part >= 0}
    form = FORMS[thing[0]]
    if len(thing) != len(form) or not all(judges[sign](part) for sign, part in zip(form, thing)):
        return False
    return thing[0] != "many" or thing[5] <= thing[6]


class IsRule(unittest.TestCase):
    def told(self, thing, wanted):
        self.assertIs(is_rule(thing), wanted, repr(thing))

    def test_right_ones(self):
        for rule in RULES:
            self.told(rule, True)
        self.told(("never", "a", ((SPOT,), (), ())), True)
        self.told(("ringless", "a", EMPTY), True)
        self.told(("many", "a", "p", "a", "forth", 0, 0), True)

    def test_a_part_too_few_or_too_many(self):
        for rule in RULES:
            for at in range(len(rule)):
                self.told(rule[:at] + rule[at + 1:], False)
                self.told(rule[:at], False)
                self.told(rule[:at] + (rule[at],) + rule[at:], False)
            for more in (None, 0, "a", "number", (), rule):
                self.told(rule + (more,), False)

    def test_an_unknown_word(self):
        for rule in RULES:
            for word in ("", "Field", "fields", "end", "lone", "unlike", "any", "ring", None, 0, True, (), [],
                         (rule[0],), [rule[0]]):
                self.told((word,) + rule[1:], False)
        # Another sort's word, where its form is another one.
        self.told(("field",) + RULES[2][1:], False)
        self.told(("never",) + RULES[8][1:], False)
        self.told(("ringless",) + RULES[7][1:], False)
        self.told(("alone",) + RULES[2][1:], False)

    def test_a_list_for_a_tuple(self):
        for rule in RULES:
            self.told(list(rule), False)
        self.told(("never", "aa", list(PATTERN)), False)
        self.told(("never", "aa", ([SPOT], (), ())), False)
        self.told(("ringless", "aa", list(ROAD)), False)
        self.told(("ringless", "aa", ("again", list(FORTH))), False)

    def test_names_that_are_none(self):
        for rule in RULES:
            for at, sign in enumerate(FORMS[rule[0]]):
                if sign == "n":
                    for name in ("", "A", "abcdefghi", "a1", "a b", "=a", None, 0, 1, True, (), [], ("a",), ["a"]):
                        self.told(rule[:at] + (name,) + rule[at + 1:], False)
                    self.told(rule[:at] + ("zzzzzzzz",) + rule[at + 1:], True)

    def test_sorts_and_turns_that_are_none(self):
        for sort in ("", "Number", "numbers", "texts", "value", "any", None, 0, 1, True, (), [], ("text",), ["text"]):
            self.told(("field", "aa", "p", "u", sort), False)
        for turn in ("", "Forth", "either", "both", "to", None, 0, 1, True, (), [], ("forth",), ["back"]):
            self.told(("many", "aa", "p", "a", turn, 0, 1), False)

    def test_low_and_high(self):
        for low, high, wanted in ((0, 0, True), (0, 1, True), (6, 7, True), (7, 100, True), (3, 3, True), (1, 0, False),
                                  (7, 6, False), (-1, 0, False), (-1, 3, False), (-2, -1, False), (0, -1, False),
                                  (True, 3, False), (0, True, False), (False, 0, False), (0, False, False),
                                  (None, 1, False), (0, None, False), ("0", 1, False), (0, "1", False), ((), 1, False),
                                  (0, [], False), (True, True, False)):
            self.told(("many", "aa", "p", "a", "forth", low, high), wanted)
            self.told(("many", "aa", "p", "a", "back", low, high), wanted)

    def test_patterns_and_ways_that_are_none(self):
        for thing in (None, 0, True, "never", (), [], PATTERN[:2], ((), (), ()), (PATTERN[0], PATTERN[1], None), ROAD,
                      (PATTERN[0], ((0, 2, "all", AF),), ())):
            self.told(("never", "aa", thing), False)
        for thing in (None, 0, True, "empty", (), [], ("step", "a"), ("again",), ("many", AF, 2, 1), ("many", AF, 0, 7),
                      PATTERN, ("step", "a", "to")):
            self.told(("ringless", "aa", thing), False)

    def test_spoiled_ones(self):
        seen = []
        for rule in RULES:
            for other in spoiled(rule):
                seen.append(judged(other))
                self.told(other, seen[-1])
        self.assertGreater(seen.count(True), 20)
        self.assertGreater(seen.count(False), 1000)

    def test_of_any_thing_true_or_false(self):
        for thing in odd_things():
            self.told(thing, judged(thing))
            for rule in RULES:
                for at in range(len(rule)):
                    other = rule[:at] + (thing,) + rule[at + 1:]
                    self.told(other, judged(other))

    def test_what_is_handed_in_stays(self):
        thing = ["never", "aa", [list(PATTERN[0])]]
        kept = repr(thing)
        self.told(thing, False)
        self.told(tuple(thing), False)
        self.assertEqual(repr(thing), kept)


class BreachCase(unittest.TestCase):
    def told(self, store, rule, wanted):
        self.assertIs(is_rule(rule), True)
        rows = rows_of(store)
        for _ in range(2):
            told = breach(store, rule)
            self.assertTrue(same_kinds(told, wanted), (rule, told, wanted))
        self.assertTrue(same_kinds(rows_of(store), rows))


def field_store(kind, *fields):
    """A store of places of a kind, each with these fields."""
    store = Store()
    for each in fields:
        store.add_place(kind, each)
    return store


class Field(BreachCase):
    def test_it_holds(self):
        self.told(Store(), ("field", "r", "p", "u", "number"), None)
        store = field_store("p", {"u": 1}, {"u": 0, "v": "x"}, {"u": -3})
        self.told(store, ("field", "r", "p", "u", "number"), None)
        store = field_store("p", {"u": ""}, {"u": "5"})
        self.told(store, ("field", "r", "p", "u", "text"), None)

    def test_a_place_without_it(self):
        store = field_store("p", {"u": 1}, {"v": 1}, {})
        self.told(store, ("field", "r", "p", "u", "number"), ("place", 1))
        self.told(store, ("field", "r", "p", "v", "number"), ("place", 0))
        self.told(store, ("field", "r", "p", "u", "text"), ("place", 0))
        store.set_place(1, "u", 5)
        self.told(store, ("field", "r", "p", "u", "number"), ("place", 2))
        store.set_place(2, "u", 5)
        self.told(store, ("field", "r", "p", "u", "number"), None)
        store.set_place(0, "u", None)
        self.told(store, ("field", "r", "p", "u", "number"), ("place", 0))

    def test_one_with_the_other_sort(self):
        store = field_store("p", {"u": 1}, {"u": 2}, {"u": "3"})
        self.told(store, ("field", "r", "p", "u", "number"), ("place", 2))
        self.told(store, ("field", "r", "p", "u", "text"), ("place", 0))
        store = field_store("p", {"u": ""}, {"u": 0})
        self.told(store, ("field", "r", "p", "u", "text"), ("place", 1))
        self.told(store, ("field", "r", "p", "u", "number"), ("place", 0))

    def test_places_of_other_kinds_are_not_looked_at(self):
        store = town_store()
        self.told(store, ("field", "r", "p", "u", "number"), None)
        self.told(store, ("field", "r", "q", "u", "number"), ("place", 4))
        self.told(store, ("field", "r", "q", "v", "text"), ("place", 5))
        self.told(store, ("field", "r", "p", "v", "text"), ("place", 1))
        self.told(store, ("field", "r", "pp", "v", "text"), None)

    def test_ties_are_not_looked_at(self):
        store = field_store("p", {"u": 1})
        store.add_tie("p", 0, 0, {})
        self.told(store, ("field", "r", "p", "u", "number"), None)


class Ends(BreachCase):
    def test_it_holds(self):
        self.told(Store(), ("ends", "r", "a", "p", "q"), None)
        store = town_store()
        self.told(store, ("ends", "r", "c", "p", "q"), None)
        store.take_tie(5)
        self.told(store, ("ends", "r", "a", "p", "p"), None)

    def test_each_end_wrong(self):
        store = field_store("p", {}, {})
        store.add_place("q", {})
        for start, end in itertools.product((0, 1, 2), repeat=2):
            tie = store.add_tie("a", start, end, {})
            kinds = ("pq"[start == 2], "pq"[end == 2])
            for wanted in itertools.product("pqr", repeat=2):
                self.told(store, ("ends", "r", "a") + wanted, None if kinds == wanted else ("tie", tie))
            store.take_tie(tie)

    def test_the_least_tie(self):
        store = town_store()
        self.told(store, ("ends", "r", "a", "p", "p"), ("tie", 5))
        self.told(store, ("ends", "r", "a", "p", "q"), ("tie", 0))
        self.told(store, ("ends", "r", "b", "p", "q"), ("tie", 4))
        self.told(store, ("ends", "r", "b", "q", "q"), ("tie", 3))
        store.take_tie(3)
        self.told(store, ("ends", "r", "b", "p", "q"), ("tie", 4))
        self.told(store, ("ends", "r", "b", "q", "q"), None)

    def test_ties_of_other_kinds_are_not_looked_at(self):
        store = store_of(2, [("b", 0, 1), ("a", 0, 1)])
        self.told(store, ("ends", "r", "a", "q", "q"), ("tie", 1))
        self.told(store, ("ends", "r", "p", "q", "q"), None)


class Alone(BreachCase):
    def test_it_holds(self):
        self.told(Store(), ("alone", "r", "p", "u"), None)
        self.told(field_store("p", {"u": 1}), ("alone", "r", "p", "u"), None)
        self.told(field_store("p", {"u": 1}, {"u": 2}, {"u": -1}, {"u": "a"}), ("alone", "r", "p", "u"), None)

    def test_the_least_that_has_the_value_of_a_lesser_one(self):
        store = field_store("p", {"u": 1}, {"u": 2}, {"u": 3}, {"u": 2}, {"u": 1})
        self.told(store, ("alone", "r", "p", "u"), ("place", 3))
        store.set_place(3, "u", 4)
        self.told(store, ("alone", "r", "p", "u"), ("place", 4))
        store.take_place(0)
        self.told(store, ("alone", "r", "p", "u"), None)
        store.set_place(1, "u", 3)
        self.told(store, ("alone", "r", "p", "u"), ("place", 2))

    def test_three_with_one_value(self):
        self.told(field_store("p", {"u": "x"}, {"u": "x"}, {"u": "x"}), ("alone", "r", "p", "u"), ("place", 1))

    def test_a_number_and_a_text_of_the_same_figures_are_unlike(self):
        self.told(field_store("p", {"u": 1}, {"u": "1"}, {"u": 0}, {"u": "0"}, {"u": ""}), ("alone", "r", "p", "u"), None)
        self.told(field_store("p", {"u": 1}, {"u": "1"}, {"u": "1"}), ("alone", "r", "p", "u"), ("place", 2))
        self.told(field_store("p", {"u": ""}, {"u": 0}, {"u": ""}, {"u": 0}), ("alone", "r", "p", "u"), ("place", 2))

    def test_places_without_the_field_break_nothing(self):
        self.told(field_store("p", {}, {"v": 1}, {}, {"u": 1}, {"v": 1}), ("alone", "r", "p", "u"), None)
        self.told(field_store("p", {}, {"v": 1}, {}, {"u": 1}, {"v": 1}), ("alone", "r", "p", "v"), ("place", 4))

    def test_places_of_other_kinds_are_not_looked_at(self):
        store = field_store("p", {"u": 1})
        store.add_place("q", {"u": 1})
        self.told(store, ("alone", "r", "p", "u"), None)
        self.told(store, ("alone", "r", "q", "u"), None)
        store.add_place("q", {"u": 1})
        self.told(store, ("alone", "r", "p", "u"), None)
        self.told(store, ("alone", "r", "q", "u"), ("place", 2))


class Many(BreachCase):
    def test_both_turns(self):
        store = store_of(3, [("a", 0, 1), ("a", 0, 2), ("a", 1, 2)])
        self.told(store, ("many", "r", "p", "a", "forth", 0, 2), None)
        self.told(store, ("many", "r", "p", "a", "forth", 1, 2), ("place", 2))
        self.told(store, ("many", "r", "p", "a", "forth", 0, 1), ("place", 0))
        self.told(store, ("many", "r", "p", "a", "back", 0, 2), None)
        self.told(store, ("many", "r", "p", "a", "back", 1, 2), ("place", 0))
        self.told(store, ("many", "r", "p", "a", "back", 0, 1), ("place", 2))

    def test_just_low_and_just_high_one_less_and_one_more(self):
        for many in range(5):
            store = store_of(2, [("a", 0, 1)] * many)
            for low, high in itertools.combinations_with_replacement(range(6), 2):
                fits = low <= many <= high
                self.told(store, ("many", "r", "p", "a", "forth", low, high),
                          ("place", 0) if not fits else ("place", 1) if low > 0 else None)
                self.told(store, ("many", "r", "p", "a", "back", low, high),
                          ("place", 0) if low > 0 else None if fits else ("place", 1))

    def test_ties_from_a_place_to_itself_do_both(self):
        store = store_of(1, [("a", 0, 0)])
        for turn in ("forth", "back"):
            self.told(store, ("many", "r", "p", "a", turn, 1, 1), None)
            self.told(store, ("many", "r", "p", "a", turn, 0, 0), ("place", 0))
            self.told(store, ("many", "r", "p", "a", turn, 2, 2), ("place", 0))

    def test_ties_and_places_of_other_kinds_are_not_looked_at(self):
        store = store_of(2, [("b", 0, 1), ("a", 0, 1), ("b", 0, 1)])
        self.told(store, ("many", "r", "p", "a", "forth", 0, 1), None)
        self.told(store, ("many", "r", "p", "b", "forth", 0, 1), ("place", 0))
        self.told(store, ("many", "r", "q", "b", "forth", 7, 9), None)
        store.add_place("q", {})
        self.told(store, ("many", "r", "p", "a", "forth", 0, 1), None)
        self.told(store, ("many", "r", "q", "a", "forth", 0, 0), None)
        self.told(store, ("many", "r", "q", "a", "forth", 1, 1), ("place", 2))

    def test_the_least_place(self):
        store = line_of(1, 1, 1)
        self.told(store, ("many", "r", "p", "a", "forth", 1, 1), ("place", 3))
        self.told(store, ("many", "r", "p", "a", "back", 1, 1), ("place", 0))
        self.told(store, ("many", "r", "p", "a", "forth", 0, 0), ("place", 0))
        self.told(store, ("many", "r", "p", "a", "back", 0, 0), ("place", 1))
        self.told(Store(), ("many", "r", "p", "a", "back", 5, 5), None)


class Never(BreachCase):
    def test_without_rows(self):
        self.told(Store(), ("never", "r", ((SPOT,), (), ())), None)
        self.told(town_store(), ("never", "r", ((("r", ("any",)),), (), ())), None)
        self.told(town_store(), ("never", "r", ((SPOT,) * 2, ((0, 1, "all", BF), (0, 1, "any", AF)), ())), None)

    def test_with_one_row_and_with_some(self):
        store = town_store()
        self.told(store, ("never", "r", ((SPOT,) * 2, ((0, 1, "all", ("then", AF, AF)),), ())), ("row", (0, 3)))
        self.told(store, ("never", "r", ((SPOT,) * 2, ((1, 0, "all", AF),), ())), ("row", (1, 0)))
        self.told(store, ("never", "r", ((("q", ("any",)),), (), ())), ("row", (4,)))

    def test_with_more_than_two_hundred(self):
        store = lone_store(40)
        pattern = ((SPOT,) * 5, (), (("under", 0, "n", 1, "n"), ("under", 1, "n", 2, "n")))
        with self.assertRaises(TooMany):
            ask(store, pattern)
        self.told(store, ("never", "r", pattern), ("row", (0, 1, 2, 0, 0)))

    def test_with_a_count_without_end(self):
        store = store_of(4, [("a", 2, 3), ("a", 3, 2), ("a", 0, 1)])
        pattern = ((SPOT,) * 2, ((0, 1, "all", ROAD),), (("unlike", 0, 1),))
        with self.assertRaises(NoEnd):
            ask(store, pattern)
        self.told(store, ("never", "r", pattern), ("row", (0, 1)))
        store.take_tie(2)
        self.told(store, ("never", "r", pattern), ("row", (2, 3)))
        store.take_tie(0)
        self.told(store, ("never", "r", pattern), ("row", (3, 2)))
        store.take_tie(1)
        self.told(store, ("never", "r", pattern), None)

    def test_by_chance(self):
        chance = random.Random(91)
        seen = []
        for count in range(150):
            store = random_field_store(chance)
            pattern = random_pattern(chance, chance.randrange(1, 4), chance.randrange(3), chance.randrange(2))
            if count % 2:
                pattern = ((SPOT,) * len(pattern[0]),) + pattern[1:]
            rows = rows_tried(store, pattern)
            seen.append(len(rows))
            self.told(store, ("never", "r", pattern), ("row", rows[0][0]) if rows else None)
        self.assertGreater(seen.count(0), 20)
        self.assertGreater(len([many for many in seen if many > 1]), 20)


class Ringless(BreachCase):
    def test_it_holds(self):
        for way in (ROAD, STAR, EMPTY, AF, ("again", EMPTY)):
            self.told(Store(), ("ringless", "r", way), None)
            self.told(store_of(2, []), ("ringless", "r", way), None)
        self.told(line_of(1, 2, 1), ("ringless", "r", ROAD), None)

    def test_the_row_without_steps_is_no_walk_with_a_leg(self):
        store = store_of(3, [("a", 0, 1), ("b", 1, 2)])
        for way in (EMPTY, ("again", EMPTY), ("many", EMPTY, 0, 6), ROAD, ("many", FORTH, 0, 6), ("or", EMPTY, AF)):
            self.told(store, ("ringless", "r", way), None)

    def test_a_ring(self):
        store = store_of(5, [("a", 4, 2), ("a", 2, 3), ("a", 3, 4), ("a", 0, 1), ("a", 1, 2)])
        self.told(store, ("ringless", "r", ROAD), ("place", 2))
        self.told(store, ("ringless", "r", ("many", AF, 3, 3)), ("place", 2))
        self.told(store, ("ringless", "r", ("many", AF, 4, 5)), None)
        self.told(store, ("ringless", "r", ("many", AF, 6, 6)), ("place", 2))
        self.told(store, ("ringless", "r", ("again", BF)), None)
        store.take_tie(2)
        self.told(store, ("ringless", "r", ROAD), None)

    def test_not_every_place_of_a_ring(self):
        store = store_of(3, [("b", 1, 2), ("b", 2, 0), ("a", 0, 1)])
        self.told(store, ("ringless", "r", ("then", AF, ("then", BF, BF))), ("place", 0))
        self.told(store, ("ringless", "r", ("then", BF, ("then", AF, BF))), ("place", 2))
        self.told(store, ("ringless", "r", ("then", BF, ("then", BF, AF))), ("place", 1))

    def test_a_tie_from_a_place_to_itself(self):
        store = store_of(3, [("a", 1, 1)])
        for way in (ROAD, AF, AB, ANY, ("many", AF, 6, 6)):
            self.told(store, ("ringless", "r", way), ("place", 1))
        self.told(store, ("ringless", "r", BF), None)

    def test_a_tie_gone_forth_and_back(self):
        store = store_of(3, [("a", 2, 1)])
        self.told(store, ("ringless", "r", STAR), ("place", 1))
        self.told(store, ("ringless", "r", ("many", ANY, 2, 2)), ("place", 1))
        self.told(store, ("ringless", "r", ("then", AF, AB)), ("place", 2))
        self.told(store, ("ringless", "r", ("then", AB, AF)), ("place", 1))
        for way in (ANY, ("many", ANY, 3, 3), ("many", ANY, 0, 1), ("then", AF, AF)):
            self.told(store, ("ringless", "r", way), None)

    def test_by_chance(self):
        chance = random.Random(92)
        seen = []
        while len(seen) < 200:
            store = random_field_store(chance, 5)
            way = random_way(chance, chance.randrange(1, 5), deep=1, most=2)
            found = first_ring(store, way)
            if found != "too many":
                seen.append(found)
                self.told(store, ("ringless", "r", way), found)
        self.assertGreater(seen.count(None), 20)
        self.assertGreater(len(set(seen)), 4)


def first_ring(store, way):
    """What breaks a ringless, by trying all walks of at most five legs; "too many" where they are far too many."""
    for place in store.places():
        rows = rows_of_legs(store, place, 5)
        if rows is None:
            return "too many"
        if any(row and end == place and tells(way, steps_of(store, row)) for row, end in rows):
            return ("place", place)
    return None


if __name__ == "__main__":
    unittest.main()
