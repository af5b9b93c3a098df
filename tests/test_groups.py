"""Point 16, its last bullet: tables put into groups."""

import itertools
import random
import unittest

from making import same_kinds
from tabling import EMPTY_TABLE, NO_COLUMNS, NOTHING, PEOPLE, random_table, table_from
from trying import check_own
from webstore.errors import NoColumn
from webstore.groups import grouped
from webstore.store import Store
from webstore.tables import columns, is_table

WHATS = ("rows", "kinds", "sum", "least", "most")
MIXED = (("k", "v"), (((None, None), 2), ((None, 4), 3), ((0, -5), 1), ((0, 10), 2), ((0, "10"), 7), (("x", "b"), 1),
                      (("x", "c"), 5), (("y", None), 10 ** 15 - 1)))


def value_tried(rows, what, at):
    """What one count tells of rows, by the words of the document."""
    if what == "rows":
        return sum(count for _, count in rows)
    values = [cells[at] for cells, _ in rows if cells[at] is not None]
    if what == "kinds":
        return len({(type(value), value) for value in values})
    if what == "sum":
        return sum(cells[at] for cells, count in rows if type(cells[at]) is int for _ in range(count))
    ordered = sorted(value for value in values if type(value) is int)
    ordered += sorted(value for value in values if type(value) is str)
    if not ordered:
        return None
    return ordered[0] if what == "least" else ordered[-1]


def tried(table, keys, counts):
    names, rows = table
    places = [names.index(key) for key in keys]
    groups = {} if keys else {(): []}
    for row in rows:
        groups.setdefault(tuple(row[0][at] for at in places), []).append(row)
    told = {cells + tuple(value_tried(each, what, None if what == "rows" else names.index(name))
                          for what, name, _ in counts): 1 for cells, each in groups.items()}
    return table_from(list(keys) + [new for _, _, new in counts], told)


class GroupsCase(unittest.TestCase):
    def told(self, told, wanted):
        self.assertTrue(same_kinds(told, wanted), (told, wanted))
        self.assertIs(is_table(told), True)

    def no_column(self, table, keys, counts):
        for rows in (table, (table[0], ())):
            with self.assertRaises(NoColumn) as caught:
                grouped(rows, keys, counts)
            self.assertIs(type(caught.exception), NoColumn)


class Whats(GroupsCase):
    def test_each_by_itself(self):
        self.assertIs(is_table(MIXED), True)
        for what, cells in (("rows", (5, 10, 6, 10 ** 15 - 1)), ("kinds", (1, 3, 2, 0)), ("sum", (12, 15, 0, 0)),
                            ("least", (4, -5, "b", None)), ("most", (4, "10", "c", None))):
            self.told(grouped(MIXED, ["k"], [(what, "v", "new")]),
                      (("k", "new"), tuple(((key, cell), 1) for key, cell in zip((None, 0, "x", "y"), cells))))

    def test_each_without_keys(self):
        for what, cell in (("rows", 10 ** 15 + 20), ("kinds", 6), ("sum", 27), ("least", -5), ("most", "c")):
            self.told(grouped(MIXED, [], [(what, "v", "new")]), (("new",), (((cell,), 1),)))

    def test_several_at_once_and_the_same_twice(self):
        counts = [("most", "v", "a"), ("rows", None, "b"), ("least", "v", "c"), ("sum", "v", "d"), ("kinds", "v", "e"),
                  ("most", "v", "f"), ("sum", "v", "g"), ("rows", "v", "h"), ("kinds", "k", "i"), ("least", "k", "j")]
        self.told(grouped(MIXED, ["k"], counts), (
            ("k",) + tuple("abcdefghij"),
            (((None, 4, 5, 4, 12, 1, 4, 12, 5, 0, None), 1), ((0, "10", 10, -5, 15, 3, "10", 15, 10, 1, 0), 1),
             (("x", "c", 6, "b", 0, 2, "c", 0, 6, 1, "x"), 1),
             (("y", None, 10 ** 15 - 1, None, 0, 0, None, 0, 10 ** 15 - 1, 1, "y"), 1))))

    def test_rows_with_any_name(self):
        for name in (None, "v", "k", "x", "", "No Column", "abcdefghi", 0, 1, -7, 10 ** 12):
            self.told(grouped(MIXED, ["k"], [("rows", name, "v")]),
                      (("k", "v"), (((None, 5), 1), ((0, 10), 1), (("x", 6), 1), (("y", 10 ** 15 - 1), 1))))
            self.told(grouped((("k", "v"), ()), [], [("rows", name, "v")]), (("v",), (((0,), 1),)))

    def test_none_is_passed_over(self):
        table = (("a",), (((None,), 9),))
        self.told(grouped(table, [], [(what, "a", what) for what in WHATS]), (WHATS, (((9, 0, 0, None, None), 1),)))
        table = (("a", "b"), (((None, 1), 4), ((2, 1), 3), ((3, None), 2)))
        self.told(grouped(table, [], [(what, "a", what) for what in WHATS]), (WHATS, (((9, 2, 12, 2, 3), 1),)))
        self.told(grouped(table, [], [(what, "b", what) for what in WHATS]), (WHATS, (((9, 1, 7, 1, 1), 1),)))

    def test_texts_are_passed_over_by_sum_alone(self):
        table = (("a",), (((2,), 3), (("",), 2), (("7",), 1), (("b",), 1)))
        self.told(grouped(table, [], [(what, "a", what) for what in WHATS]), (WHATS, (((7, 4, 6, 2, "b"), 1),)))
        self.told(grouped((("a",), table[1][1:]), [], [(what, "a", what) for what in WHATS]),
                  (WHATS, (((4, 3, 0, "", "b"), 1),)))

    def test_numbers_stand_ahead_of_texts(self):
        table = (("a",), (((-1,), 1), ((99,), 1), (("",), 1), (("1",), 1)))
        self.told(grouped(table, [], [("least", "a", "l"), ("most", "a", "m")]), (("l", "m"), (((-1, "1"), 1),)))
        self.told(grouped((("a",), table[1][:2]), [], [("least", "a", "l"), ("most", "a", "m")]),
                  (("l", "m"), (((-1, 99), 1),)))
        # As Python sorts texts, and numbers by size: not one as the other.
        table = (("a",), (((9,), 1), ((10,), 1), (("10",), 1), (("9",), 1)))
        self.told(grouped(table, [], [("least", "a", "l"), ("most", "a", "m"), ("kinds", "a", "k")]),
                  (("l", "m", "k"), (((9, "9", 4), 1),)))

    def test_kinds_count_values_and_not_rows(self):
        table = (("a", "b"), (((1, 0), 5), ((1, 1), 5), ((2, 0), 5), (("1", 0), 5)))
        self.told(grouped(table, [], [("kinds", "a", "n"), ("kinds", "b", "m")]), (("n", "m"), (((3, 2), 1),)))

    def test_sums_below_nought_and_nought(self):
        table = (("a",), (((-10 ** 12 + 1,), 10 ** 15 - 1), ((0,), 7), ((5,), 2)))
        self.told(grouped(table, [], [("sum", "a", "s"), ("rows", "a", "r")]),
                  (("s", "r"), ((((-10 ** 12 + 1) * (10 ** 15 - 1) + 10, 10 ** 15 + 8), 1),)))


class Keys(GroupsCase):
    def test_without_keys_one_row_always(self):
        counts = [(what, "a", what) for what in WHATS]
        self.told(grouped(EMPTY_TABLE, [], counts), (WHATS, (((0, 0, 0, None, None), 1),)))
        self.told(grouped(EMPTY_TABLE, [], []), ((), (((), 1),)))
        self.told(grouped(PEOPLE, [], []), ((), (((), 1),)))
        self.told(grouped(NOTHING, [], []), ((), (((), 1),)))
        self.told(grouped(NO_COLUMNS, [], []), ((), (((), 1),)))
        self.told(grouped(NO_COLUMNS, [], [("rows", None, "n")]), (("n",), (((5,), 1),)))
        self.told(grouped(NOTHING, [], [("rows", 3, "n")]), (("n",), (((0,), 1),)))

    def test_with_keys_no_row_of_none(self):
        self.told(grouped(EMPTY_TABLE, ["a"], [("rows", None, "n"), ("most", "b", "m")]), (("a", "n", "m"), ()))
        self.told(grouped(EMPTY_TABLE, ["b", "a"], []), (("b", "a"), ()))

    def test_no_counts_at_all(self):
        self.told(grouped(PEOPLE, ["town"], []), (("town",), (((None,), 1), (("bern",), 1), (("thun",), 1))))
        self.told(grouped(PEOPLE, PEOPLE[0], []), (PEOPLE[0], tuple((cells, 1) for cells, _ in PEOPLE[1])))
        self.told(grouped(PEOPLE, ["town", "age"], []), (
            ("town", "age"), (((None, 30), 1), (("bern", None), 1), (("bern", 30), 1), (("thun", 7), 1),
                              (("thun", "old"), 1))))

    def test_several_keys_in_their_order(self):
        table = (("a", "b", "c"), (((None, "x", 1), 2), ((1, None, 5), 1), ((1, "x", 1), 3), ((1, "x", 2), 4)))
        self.told(grouped(table, ["b", "a"], [("sum", "c", "s"), ("rows", 0, "n")]), (
            ("b", "a", "s", "n"), (((None, 1, 5, 1), 1), (("x", None, 2, 2), 1), (("x", 1, 11, 7), 1))))
        self.told(grouped(table, ["a"], [("kinds", "b", "k")]), (("a", "k"), (((None, 1), 1), ((1, 1), 1))))

    def test_rows_rise_with_none_ahead_and_numbers_ahead_of_texts(self):
        table = (("a", "b"), (((0, "x"), 1), ((1, 10), 1), ((2, 9), 1), ((3, None), 1), ((4, ""), 1), ((5, -1), 1)))
        self.told(grouped(table, ["b"], [("sum", "a", "s")]), (
            ("b", "s"), (((None, 3), 1), ((-1, 5), 1), ((9, 2), 1), ((10, 1), 1), (("", 4), 1), (("x", 0), 1))))

    def test_a_number_and_a_text_of_the_same_figures(self):
        table = (("a", "b"), (((1, 0), 1), ((1, 1), 1), (("1", 0), 1)))
        self.told(grouped(table, ["a"], [("rows", None, "n")]), (("a", "n"), (((1, 2), 1), (("1", 1), 1))))

    def test_a_key_may_be_counted_too(self):
        self.told(grouped(PEOPLE, ["age"], [("kinds", "age", "k"), ("sum", "age", "s")]), (
            ("age", "k", "s"), (((None, 0, 0), 1), ((7, 1, 7), 1), ((30, 1, 180), 1), (("old", 1, 0), 1))))

    def test_new_names_may_be_other_columns(self):
        self.told(grouped(PEOPLE, ["town"], [("rows", None, "age"), ("most", "age", "who")]), (
            ("town", "age", "who"), (((None, 4, 30), 1), (("bern", 3, 30), 1), (("thun", 4, "old"), 1))))
        self.told(grouped(PEOPLE, [], [("kinds", "town", "town"), ("least", "who", "age")]), (
            ("town", "age"), (((2, 0), 1),)))


class Wrong(GroupsCase):
    def test_keys_that_are_none(self):
        for keys in (["x"], ["who", "x"], ["x", "who"], ["Town"], [""]):
            for make in (list, tuple):
                self.no_column(PEOPLE, make(keys), [])
                self.no_column(PEOPLE, make(keys), [("rows", None, "n")])
        self.no_column(NO_COLUMNS, ["a"], [])

    def test_names_that_are_none(self):
        for what in WHATS[1:]:
            for counts in ([(what, "x", "n")], [(what, "n", "n")], [("rows", None, "m"), (what, "x", "n")],
                           [(what, "who", "m"), (what, "m", "n")], [(what, "", "n")]):
                self.no_column(PEOPLE, [], counts)
                self.no_column(PEOPLE, ["who"], counts)
            self.no_column(NO_COLUMNS, [], [(what, "a", "n")])

    def test_a_new_name_is_no_column_to_count(self):
        self.no_column(PEOPLE, ["town"], [("rows", None, "n"), ("sum", "n", "m")])


class Whole(GroupsCase):
    def test_by_chance(self):
        chance = random.Random(64)
        for _ in range(400):
            names = chance.sample("abcd", chance.randrange(5))
            table = random_table(chance, names, 12, (None, 0, 1, -2, "x", "1"))
            table = (table[0], tuple((cells, min(count, 3)) for cells, count in table[1]))
            keys = chance.sample(names, chance.randrange(len(names) + 1))
            free = [name for name in "abcdefgh" if name not in keys]
            counts = []
            for new in chance.sample(free, chance.randrange(5)):
                what = chance.choice(WHATS if names else ("rows",))
                counts.append((what, chance.choice(names) if names else None, new))
            self.told(grouped(table, keys, counts), tried(table, keys, counts))

    def test_lists_and_tuples_are_the_same(self):
        counts = [("sum", "age", "n"), ("rows", None, "m")]
        wanted = grouped(PEOPLE, ["town"], counts)
        for keys, each in itertools.product((["town"], ("town",)), (counts, tuple(counts))):
            self.told(grouped(PEOPLE, keys, each), wanted)

    def test_what_is_handed_in_stays(self):
        keys, counts = ["town", "age"], [("sum", "age", "n"), ("rows", None, "m")]
        told = check_own(self, Store(), lambda: grouped(PEOPLE, keys, counts))
        self.assertEqual((keys, counts), (["town", "age"], [("sum", "age", "n"), ("rows", None, "m")]))
        kept = repr(told)
        keys.append("who")
        counts.clear()
        self.assertEqual(repr(told), kept)

    def test_what_is_told_may_be_handed_in_again(self):
        told = grouped(grouped(PEOPLE, ["town"], [("rows", None, "n")]), [], [("most", "n", "m"), ("rows", None, "k")])
        self.told(told, (("m", "k"), (((4, 3), 1),)))
        self.told(columns(told, ["k"]), (("k",), (((3,), 1),)))

    def test_six_columns_and_two_hundred_rows(self):
        names = tuple("abcdef")
        table = (names, tuple(((n // 100, n % 7, n, None, str(n), -n), 10 ** 15 - 1) for n in range(200)))
        told = grouped(table, ["a"], [("sum", "c", "s"), ("rows", None, "r"), ("kinds", "b", "k"), ("most", "e", "m"),
                                      ("least", "f", "l"), ("most", "d", "o")])
        many = 10 ** 15 - 1
        self.told(told, (tuple("asrkmlo"), (((0, 4950 * many, 100 * many, 7, "99", -99, None), 1),
                                            ((1, 14950 * many, 100 * many, 7, "199", -199, None), 1))))
        self.assertEqual(len(grouped(table, names, [("rows", None, "n")])[1]), 200)


if __name__ == "__main__":
    unittest.main()
