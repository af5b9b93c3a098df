"""Point 16: tables, and what is made of one, or of two with the same columns."""

import random
import unittest

from laying import SPOT, lone_store, town_store
from making import odd_things, same_kinds, spoiled
from tabling import (CELLS, EMPTY_TABLE, NO_COLUMNS, NOTHING, PEOPLE, counts_of, judged, order_of, random_table,
                     table_from)
from trying import AF, ROAD, STAR, check_own, line_of
from webstore.asking import ask
from webstore.errors import NoColumn, NoEnd, TooMany
from webstore.store import Store, rows_of
from webstore.tables import added, columns, is_table, less, table_of, where, with_field

NAMES = ("a", "b", "c", "d", "e", "f")


class TablesCase(unittest.TestCase):
    def told(self, told, wanted):
        self.assertTrue(same_kinds(told, wanted), (told, wanted))
        self.assertIs(is_table(told), True)

    def no_column(self, ask_it):
        with self.assertRaises(NoColumn) as caught:
            ask_it()
        self.assertIs(type(caught.exception), NoColumn)


class IsTable(unittest.TestCase):
    def told(self, thing, wanted):
        self.assertIs(is_table(thing), wanted, repr(thing))

    def test_right_ones(self):
        for thing in (PEOPLE, EMPTY_TABLE, NO_COLUMNS, NOTHING, (("a",), (((None,), 1),)), (("abcdefgh",), ()),
                      (("a",), tuple(((cell,), 10 ** 14) for cell in CELLS)), (("a", "b"), (((1, 1), 1),)),
                      (("b", "a"), (((None, None), 1), ((None, 0), 1), ((None, ""), 1), ((0, None), 1)))):
            self.told(thing, True)

    def test_a_part_too_few_or_too_many(self):
        names, rows = PEOPLE
        for thing in ((), (names,), (rows,), (names, rows, ()), (rows, names), (names, rows, None)):
            self.told(thing, False)
        row = ((1,), 1)
        for other in ((), ((1,),), (1,), row + (1,), row + (None,), (1, (1,))):
            self.told((("a",), (other,)), False)

    def test_a_list_for_a_tuple(self):
        names, rows = PEOPLE
        for thing in (list(PEOPLE), (list(names), rows), (names, list(rows)), (names, (list(rows[0]),) + rows[1:]),
                      (names, ((list(rows[0][0]), 1),) + rows[1:]), ([], ()), ((), []), (("a",), ([(1,), 1],)),
                      (("a",), ((([],), 1),)), (("a",), (((("x",),), 1),))):
            self.told(thing, False)

    def test_names(self):
        for names in (("a", "a"), ("a", "b", "a"), ("",), ("A",), ("abcdefghi",), ("a1",), (None,), (0,), (True,), ((),),
                      ([],), (("a",),), ("a", None), "ab", None, 0, True):
            self.told((names, ()), False)
        self.told(("", ()), False)

    def test_cells_too_many_or_too_few(self):
        for cells in ((), (1,), (1, 2, 3), (1, 2, None)):
            self.told((("a", "b"), ((cells, 1),)), False)
            self.told((("a", "b"), (((0, 0), 1), (cells, 1))), False)
        self.told((("a", "b"), (((1, 2), 1),)), True)
        self.told(((), (((1,), 1),)), False)
        self.told((("a",), (("x", 1),)), False)
        self.told((("a",), ((None, 1),)), False)

    def test_cells_and_counts_that_are_none(self):
        for cell in (True, False, (), [], (1,), ["a"]):
            self.told((("a",), (((cell,), 1),)), False)
            self.told((("a", "b"), (((None, cell), 1),)), False)
        for count in (True, False, 0, -1, -10 ** 14, None, "1", "", (), [], (1,)):
            self.told((("a",), (((1,), count),)), False)
            self.told(((), (((), count),)), False)
            self.told((("a",), (((1,), 1), ((2,), count))), False)

    def test_rows_alike(self):
        for cell in CELLS:
            self.told((("a",), (((cell,), 1), ((cell,), 1))), False)
            self.told((("a",), (((cell,), 1), ((cell,), 2))), False)
            self.told((("a", "b"), (((1, cell), 2), ((1, cell), 1))), False)
        self.told(((), (((), 1), ((), 1))), False)
        self.told(((), (((), 1),)), True)

    def test_rows_rising(self):
        for at, one in enumerate(CELLS):
            for to, other in enumerate(CELLS):
                self.told((("a",), (((one,), 1), ((other,), 1))), at < to)
                self.told((("a", "b"), (((one, other), 1), ((other, one), 1))), at < to)
                self.told((("a", "b"), (((5, one), 1), ((5, other), 1))), at < to)
                self.told((("a",), (((-9,), 1), ((one,), 1), ((other,), 1), (("zz",), 1))), 0 < at < to)
        self.told((("a",), (((10,), 1), ((9,), 1))), False)
        self.told((("a",), (((9,), 1), ((10,), 1))), True)
        self.told((("a",), ((("10",), 1), (("9",), 1))), True)
        self.told((("a",), ((("B",), 1), (("a",), 1))), True)

    def test_spoiled_ones(self):
        seen = []
        for thing in (PEOPLE, NO_COLUMNS, EMPTY_TABLE, (("a",), (((1,), 1), (("x",), 7)))):
            for other in spoiled(thing):
                seen.append(judged(other))
                self.told(other, seen[-1])
        self.assertGreater(seen.count(True), 10)
        self.assertGreater(seen.count(False), 200)

    def test_of_any_thing_true_or_false(self):
        for thing in odd_things():
            for other in (thing, (thing, ()), ((), thing), ((thing,), ()), (("a",), (thing,)), (("a",), ((thing, 1),)),
                          (("a",), (((thing,), 1),)), (("a",), (((1,), thing),)), (("a", "b"), (((0, thing), 1), ((0, "x"), 1))),
                          (("a",), (((1,), 1), thing))):
                self.told(other, judged(other))

    def test_bounds_are_not_looked_at(self):
        names = tuple("abcdefghij")
        self.told((names, tuple(((n,) * 10, 10 ** 20) for n in range(500))), True)
        self.told((names, tuple(((n,) * 10, 1) for n in range(500)) + (((499,) * 10, 1),)), False)
        self.told((("a",), (((10 ** 30,), 1), (("x" * 99,), 1))), True)


class TableOf(TablesCase):
    def test_what_ask_tells(self):
        store = town_store()
        pattern = ((("p", ("any",)), SPOT), ((0, 1, "all", AF),), ())
        wanted = (("one", "other"), (((0, 1), 1), ((0, 5), 1), ((1, 3), 2)))
        for make in (tuple, list):
            self.told(table_of(store, pattern, make(("one", "other"))), wanted)
        self.told(table_of(store, ((("r", ("any",)),), (), ()), ["a"]), (("a",), ()))
        self.assertEqual(table_of(store, pattern, ["x", "y"])[1], tuple(ask(store, pattern)))

    def test_large_ones(self):
        told = table_of(lone_store(200), ((SPOT,), (), ()), ["n"])
        self.told(told, (("n",), tuple(((n,), 1) for n in range(200))))

    def test_refused_as_ask(self):
        with self.assertRaises(TooMany) as caught:
            table_of(lone_store(201), ((SPOT,), (), ()), ["n"])
        self.assertIs(type(caught.exception), TooMany)
        with self.assertRaises(NoEnd) as caught:
            table_of(line_of(1), ((SPOT,) * 2, ((0, 1, "all", STAR),), ()), ["a", "b"])
        self.assertEqual(caught.exception.row, (0, 0))

    def test_names_that_are_handed_in_stay(self):
        names = ["a", "b"]
        store = line_of(2)
        told = table_of(store, ((SPOT,) * 2, ((0, 1, "all", ROAD),), ()), names)
        names[0] = "z"
        self.told(told, (("a", "b"), (((0, 0), 1), ((0, 1), 2), ((1, 1), 1))))


class Columns(TablesCase):
    def test_in_another_order_fewer_and_none(self):
        for make in (tuple, list):
            self.told(columns(PEOPLE, make(("who", "age", "town"))), PEOPLE)
            self.told(columns(PEOPLE, make(("town", "who"))), (("town", "who"), (
                ((None, 3), 4), (("bern", 0), 1), (("bern", 1), 2), (("thun", 2), 1), (("thun", "x"), 3))))
            self.told(columns(PEOPLE, make(("age",))), (("age",), (((None,), 1), ((7,), 1), ((30,), 6), (("old",), 3))))
            self.told(columns(PEOPLE, make(("town",))), (("town",), (((None,), 4), (("bern",), 3), (("thun",), 4))))
            self.told(columns(PEOPLE, make(())), ((), (((), 11),)))

    def test_no_rows_and_no_columns(self):
        self.told(columns(EMPTY_TABLE, ("b",)), (("b",), ()))
        self.told(columns(EMPTY_TABLE, ()), NOTHING)
        self.told(columns(NO_COLUMNS, ()), NO_COLUMNS)
        self.told(columns(NOTHING, []), NOTHING)

    def test_numbers_and_texts_do_not_come_to_be_alike(self):
        table = (("a", "b"), (((None, 1), 1), ((None, "1"), 2), ((0, 1), 4), ((0, "1"), 8)))
        self.told(columns(table, ["b"]), (("b",), (((1,), 5), (("1",), 10))))
        self.told(columns(table, ["a"]), (("a",), (((None,), 3), ((0,), 12))))

    def test_names_that_are_none(self):
        for names in (["x"], ["who", "x"], ["x", "who"], ["whoo"], ("agee", "age"), ["Who"]):
            self.no_column(lambda: columns(PEOPLE, names))
        self.no_column(lambda: columns(NO_COLUMNS, ["a"]))
        self.no_column(lambda: columns(NOTHING, ("a",)))

    def test_by_chance(self):
        chance = random.Random(61)
        for count in range(300):
            names = NAMES[:1 + count % 5]
            table = random_table(chance, names, 12)
            kept = chance.sample(names, chance.randrange(len(names) + 1))
            counts = {}
            for cells, number in table[1]:
                key = tuple(dict(zip(names, cells))[name] for name in kept)
                counts[key] = counts.get(key, 0) + number
            self.told(columns(table, kept), table_from(kept, counts))

    def test_names_that_are_handed_in_stay(self):
        names = ["town", "age"]
        told = columns(PEOPLE, names)
        self.assertEqual(names, ["town", "age"])
        names.append("who")
        self.assertEqual(told[0], ("town", "age"))


class Where(TablesCase):
    def test_each_sign(self):
        names, rows = PEOPLE
        for name, sign, value, wanted in (
                ("age", "=", 30, (1, 3)), ("age", "<", 30, (2,)), ("age", ">", 7, (1, 3)), ("age", ">", 30, ()),
                ("age", "<", 7, ()), ("age", "=", "old", (4,)), ("age", "=", 31, ()), ("age", "<", "p", (4,)),
                ("age", ">", "a", (4,)), ("age", ">", "old", ()), ("age", "<", "old", ()), ("who", "<", 2, (0, 1)),
                ("who", ">", 0, (1, 2, 3)), ("who", "=", "x", (4,)), ("town", "=", "bern", (0, 1)),
                ("town", ">", "bern", (2, 4)), ("town", "<", "thun", (0, 1)), ("town", ">", "", (0, 1, 2, 4)),
                ("age", "=", "30", ()), ("town", "<", 10 ** 11, ()), ("town", ">", -10 ** 11, ())):
            self.told(where(PEOPLE, name, sign, value), (names, tuple(rows[at] for at in wanted)))

    def test_none_is_never_there(self):
        table = (("a", "b"), (((None, None), 1), ((None, 0), 1), ((None, ""), 1)))
        for sign in ("=", "<", ">"):
            for value in (0, -1, 10 ** 11, "", "zz"):
                self.told(where(table, "a", sign, value), (("a", "b"), ()))
        self.told(where(table, "b", "=", ""), (("a", "b"), (((None, ""), 1),)))
        self.told(where(table, "b", "<", 1), (("a", "b"), (((None, 0), 1),)))

    def test_each_cell_by_each_value(self):
        table = (("a",), tuple(((cell,), 2) for cell in CELLS))
        values = [cell for cell in CELLS if cell is not None]
        for value in values:
            for sign in ("=", "<", ">"):
                wanted = [cell for cell in values if isinstance(cell, str) == isinstance(value, str)
                          and {"=": cell == value, "<": order_of(cell) < order_of(value),
                               ">": order_of(cell) > order_of(value)}[sign]]
                self.told(where(table, "a", sign, value), (("a",), tuple(((cell,), 2) for cell in wanted)))

    def test_names_that_are_none(self):
        for table, name in ((PEOPLE, "x"), (PEOPLE, "Who"), (EMPTY_TABLE, "c"), (NO_COLUMNS, "a"), (NOTHING, "a")):
            for sign in ("=", "<", ">"):
                self.no_column(lambda: where(table, name, sign, 1))
        self.told(where(EMPTY_TABLE, "a", "=", 1), EMPTY_TABLE)


class WithField(TablesCase):
    def test_fields_of_places(self):
        store = town_store()
        table = (("n", "m"), (((0, 4), 3), ((1, 5), 1), ((3, 0), 2), ((5, 1), 1)))
        self.told(with_field(store, table, "n", "u", "new"),
                  (("n", "m", "new"), (((0, 4, 1), 3), ((1, 5, 2), 1), ((3, 0, 1), 2), ((5, 1, "x"), 1))))
        self.told(with_field(store, table, "m", "v", "z"),
                  (("n", "m", "z"), (((0, 4, "x"), 3), ((1, 5, 1), 1), ((3, 0, "x"), 2), ((5, 1, None), 1))))

    def test_none_where_there_is_no_place_or_field(self):
        store = town_store()
        cells = (None, -1, 1, 2, 6, 10 ** 12, "", "0", "1", "u")
        table = (("n",), tuple(((cell,), 1) for cell in cells))
        for field, value in (("u", 2), ("v", None), ("w", None)):
            self.told(with_field(store, table, "n", field, "new"),
                      (("n", "new"), tuple(((cell, value if cell == 1 else None), 1) for cell in cells)))

    def test_no_rows(self):
        self.told(with_field(Store(), EMPTY_TABLE, "b", "u", "new"), (("a", "b", "new"), ()))
        self.told(with_field(Store(), PEOPLE, "who", "u", "new"),
                  (PEOPLE[0] + ("new",), tuple((cells + (None,), count) for cells, count in PEOPLE[1])))

    def test_names_that_are_none_and_new_ones_that_are_there(self):
        store = town_store()
        for name, new in (("x", "new"), ("who", "who"), ("who", "age"), ("who", "town"), ("x", "who"), ("x", "x"),
                          ("new", "new")):
            self.no_column(lambda: with_field(store, PEOPLE, name, "u", new))
            self.no_column(lambda: with_field(store, (PEOPLE[0], ()), name, "u", new))
        self.no_column(lambda: with_field(store, NO_COLUMNS, "a", "u", "b"))
        self.no_column(lambda: with_field(store, NOTHING, "a", "u", "b"))
        self.assertIs(is_table(with_field(store, PEOPLE, "who", "age", "u")), True)

    def test_the_store_stays(self):
        store = town_store()
        rows = rows_of(store)
        told = with_field(store, (("n",), (((0,), 1),)), "n", "u", "new")
        self.assertTrue(same_kinds(rows_of(store), rows))
        store.set_place(0, "u", 77)
        self.told(told, (("n", "new"), (((0, 1), 1),)))
        self.told(with_field(store, (("n",), (((0,), 1),)), "n", "u", "new"), (("n", "new"), (((0, 77), 1),)))

    def test_what_is_told_may_be_handed_in_again(self):
        store = line_of(2, 3)
        table = table_of(store, ((SPOT,) * 2, ((0, 1, "all", AF),), ()), ["a", "b"])
        store.set_place(1, "u", "x")
        store.set_place(2, "u", 4)
        table = with_field(store, with_field(store, table, "a", "u", "c"), "b", "u", "d")
        self.told(table, (("a", "b", "c", "d"), (((0, 1, None, "x"), 2), ((1, 2, "x", 4), 3))))
        self.told(columns(where(table, "d", "=", 4), ["b", "c"]), (("b", "c"), (((2, "x"), 3),)))


class AddedAndLess(TablesCase):
    def test_by_hand(self):
        one = (("a",), (((None,), 1), ((1,), 2), (("x",), 3)))
        other = (("a",), (((None,), 4), ((2,), 5), (("x",), 3)))
        self.told(added(one, other), (("a",), (((None,), 5), ((1,), 2), ((2,), 5), (("x",), 6))))
        self.told(less(one, other), (("a",), (((1,), 2),)))
        self.told(less(other, one), (("a",), (((None,), 3), ((2,), 5))))
        self.told(less(one, one), (("a",), ()))
        self.told(added(one, (("a",), ())), one)
        self.told(added((("a",), ()), one), one)
        self.told(less(one, (("a",), ())), one)
        self.told(less((("a",), ()), one), (("a",), ()))

    def test_no_columns(self):
        self.told(added(NO_COLUMNS, NO_COLUMNS), ((), (((), 10),)))
        self.told(added(NOTHING, NO_COLUMNS), NO_COLUMNS)
        self.told(less(NO_COLUMNS, NOTHING), NO_COLUMNS)
        self.told(less(NO_COLUMNS, ((), (((), 2),))), ((), (((), 3),)))
        for many in (5, 6):
            self.told(less(NO_COLUMNS, ((), (((), many),))), NOTHING)

    def test_other_columns(self):
        one = (("a", "b"), (((1, 2), 1),))
        for names in (("b", "a"), ("a", "c"), ("a",), ("a", "b", "c"), ()):
            other = (names, ((tuple(range(len(names))), 1),))
            for ask_it in (added, less):
                for rows in (other, (names, ())):
                    self.no_column(lambda: ask_it(one, rows))
                    self.no_column(lambda: ask_it(rows, one))

    def test_by_chance(self):
        chance = random.Random(62)
        for count in range(300):
            names = NAMES[:count % 3]
            one, other = random_table(chance, names), random_table(chance, names)
            first, second = counts_of(one), counts_of(other)
            cells = set(first) | set(second)
            self.told(added(one, other), table_from(names, {each: first.get(each, 0) + second.get(each, 0) for each in cells}))
            self.told(less(one, other), table_from(names, {
                each: first[each] - second.get(each, 0) for each in first if first[each] > second.get(each, 0)}))

    def test_more_than_may_be_handed_in(self):
        one = (("a",), tuple(((n,), 10 ** 15 - 1) for n in range(200)))
        other = (("a",), tuple(((n,), 10 ** 15 - 1) for n in range(199, 399)))
        told = added(one, other)
        self.assertIs(is_table(told), True)
        self.assertEqual((len(told[1]), told[1][199]), (399, ((199,), 2 * 10 ** 15 - 2)))
        self.told(less(told, other), (("a",), one[1]))
        wide = (NAMES, (((1,) * 6, 1),))
        self.told(with_field(Store(), wide, "a", "u", "g"), (NAMES + ("g",), (((1,) * 6 + (None,), 1),)))


class Own(TablesCase):
    def test_told_things_are_tuples_and_told_again_as_they_were(self):
        store = town_store()
        pattern = ((SPOT,), (), ())
        for ask_it in (lambda: table_of(store, pattern, ["n"]), lambda: columns(PEOPLE, ["age", "who"]),
                       lambda: where(PEOPLE, "age", "=", 30), lambda: with_field(store, PEOPLE, "who", "u", "new"),
                       lambda: added(PEOPLE, PEOPLE), lambda: less(PEOPLE, (PEOPLE[0], ()))):
            check_own(self, store, ask_it)
            self.assertIs(is_table(ask_it()), True)


if __name__ == "__main__":
    unittest.main()
