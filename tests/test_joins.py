"""Point 16: tables put side by side."""

import random
import unittest

from making import same_kinds
from tabling import EMPTY_TABLE, NO_COLUMNS, NOTHING, PEOPLE, random_table, table_from
from trying import check_own
from webstore.joins import joined, kept, lonely
from webstore.store import Store
from webstore.tables import is_table

TOWNS = (("town", "high"), (((None, 7), 2), (("bern", 540), 3), (("bern", 541), 1), (("chur", 593), 1)))


def mates(one, row, other):
    """The rows of other that go with a row of one, by the words of the document."""
    cells = dict(zip(one[0], row[0]))
    shared = [name for name in one[0] if name in other[0]]
    found = []
    for mate in other[1]:
        more = dict(zip(other[0], mate[0]))
        if all(cells[name] is not None and more[name] is not None and type(cells[name]) is type(more[name])
               and cells[name] == more[name] for name in shared):
            found.append(mate)
    return found


def tried(one, other):
    """What joined, kept and lonely tell, by trying each row with each."""
    further = [at for at, name in enumerate(other[0]) if name not in one[0]]
    names = one[0] + tuple(other[0][at] for at in further)
    both, alone = {}, {}
    for row in one[1]:
        found = mates(one, row, other)
        for mate in found:
            both[row[0] + tuple(mate[0][at] for at in further)] = row[1] * mate[1]
        if not found:
            alone[row[0]] = row[1]
    filled = {cells + (None,) * len(further): count for cells, count in alone.items()}
    return table_from(names, both), table_from(names, {**both, **filled}), table_from(one[0], alone)


class Joins(unittest.TestCase):
    def told(self, one, other, together, with_lonely, alone):
        for ask_it, wanted in ((joined, together), (kept, with_lonely), (lonely, alone)):
            told = ask_it(one, other)
            self.assertTrue(same_kinds(told, wanted), (ask_it, told, wanted))
            self.assertIs(is_table(told), True)

    def test_columns_in_common(self):
        self.assertIs(is_table(TOWNS), True)
        names = ("who", "age", "town", "high")
        both = (((0, None, "bern", 540), 3), ((0, None, "bern", 541), 1), ((1, 30, "bern", 540), 6),
                ((1, 30, "bern", 541), 2))
        alone = (((2, 7, "thun"), 1), ((3, 30, None), 4), (("x", "old", "thun"), 3))
        filled = tuple((cells + (None,), count) for cells, count in alone)
        self.told(PEOPLE, TOWNS, (names, both), (names, both + filled), (PEOPLE[0], alone))
        names = ("town", "high", "who", "age")
        both = ((("bern", 540, 0, None), 3), (("bern", 540, 1, 30), 6), (("bern", 541, 0, None), 1),
                (("bern", 541, 1, 30), 2))
        self.told(TOWNS, PEOPLE, (names, both),
                  (names, (((None, 7, None, None), 2),) + both + ((("chur", 593, None, None), 1),)),
                  (("town", "high"), (((None, 7), 2), (("chur", 593), 1))))

    def test_none_in_common(self):
        one = (("a",), (((None,), 2), ((1,), 3)))
        other = (("b",), (((0,), 5), (("x",), 7)))
        both = (("a", "b"), (((None, 0), 10), ((None, "x"), 14), ((1, 0), 15), ((1, "x"), 21)))
        self.told(one, other, both, both, (("a",), ()))
        self.told(one, (("b", "c"), ()), (("a", "b", "c"), ()),
                  (("a", "b", "c"), (((None, None, None), 2), ((1, None, None), 3))), one)
        self.told((("b", "c"), ()), one, (("b", "c", "a"), ()), (("b", "c", "a"), ()), (("b", "c"), ()))

    def test_all_in_common(self):
        one = (("a", "b"), (((None, 1), 1), ((1, 1), 2), ((1, 2), 3), (("x", "y"), 4)))
        other = (("b", "a"), (((None, 1), 1), ((1, None), 1), ((1, 1), 5), ((2, 1), 7), (("x", "y"), 1)))
        both = (("a", "b"), (((1, 1), 10), ((1, 2), 21)))
        everything = (("a", "b"), (((None, 1), 1), ((1, 1), 10), ((1, 2), 21), (("x", "y"), 4)))
        self.told(one, other, both, everything, (("a", "b"), (((None, 1), 1), (("x", "y"), 4))))
        self.told(one, one, (("a", "b"), (((1, 1), 4), ((1, 2), 9), (("x", "y"), 16))),
                  (("a", "b"), (((None, 1), 1), ((1, 1), 4), ((1, 2), 9), (("x", "y"), 16))),
                  (("a", "b"), (((None, 1), 1),)))

    def test_none_is_the_same_as_nothing(self):
        one = (("a", "b"), (((None, None), 1), ((None, 1), 1), ((1, None), 1)))
        none = (("a", "b"), ())
        self.told(one, one, none, one, one)
        other = (("a", "c"), (((None, 1), 1), ((1, None), 1)))
        self.told(one, other, (("a", "b", "c"), (((1, None, None), 1),)),
                  (("a", "b", "c"), (((None, None, None), 1), ((None, 1, None), 1), ((1, None, None), 1))),
                  (("a", "b"), one[1][:2]))

    def test_numbers_and_texts_are_not_the_same(self):
        one = (("a",), (((1,), 1), (("1",), 2)))
        other = (("a", "b"), (((1, 0), 1), (("1", "x"), 1)))
        both = (("a", "b"), (((1, 0), 1), (("1", "x"), 2)))
        self.told(one, other, both, both, (("a",), ()))
        self.told(one, (("a", "b"), (((1, 0), 1),)), (("a", "b"), (((1, 0), 1),)),
                  (("a", "b"), (((1, 0), 1), (("1", None), 2))), (("a",), ((("1",), 2),)))

    def test_no_columns_and_no_rows(self):
        self.told(NO_COLUMNS, NO_COLUMNS, ((), (((), 25),)), ((), (((), 25),)), NOTHING)
        self.told(NO_COLUMNS, NOTHING, NOTHING, NO_COLUMNS, NO_COLUMNS)
        self.told(NOTHING, NO_COLUMNS, NOTHING, NOTHING, NOTHING)
        times = (PEOPLE[0], tuple((cells, 5 * count) for cells, count in PEOPLE[1]))
        self.told(PEOPLE, NO_COLUMNS, times, times, (PEOPLE[0], ()))
        self.told(NO_COLUMNS, PEOPLE, times, times, NOTHING)
        self.told(EMPTY_TABLE, EMPTY_TABLE, EMPTY_TABLE, EMPTY_TABLE, EMPTY_TABLE)
        self.told(NO_COLUMNS, EMPTY_TABLE, EMPTY_TABLE, (("a", "b"), (((None, None), 5),)), NO_COLUMNS)

    def test_rows_rise_again(self):
        one = (("a", "b"), (((1, 2), 1), ((2, 1), 1), ((2, 3), 1)))
        other = (("b", "c"), (((1, "z"), 1), ((2, "y"), 1), ((2, "z"), 1), ((3, 5), 1)))
        both = (((1, 2, "y"), 1), ((1, 2, "z"), 1), ((2, 1, "z"), 1), ((2, 3, 5), 1))
        self.told(one, other, (("a", "b", "c"), both), (("a", "b", "c"), both), (("a", "b"), ()))
        # Further columns that stand between those in common, and rows of which not all have mates.
        other = (("c", "b", "d", "a"), (((None, 3, None, 2), 2), ((0, 2, 0, 1), 1), (("x", 3, None, 2), 1)))
        both = (((1, 2, 0, 0), 1), ((2, 3, None, None), 2), ((2, 3, "x", None), 1))
        self.told(one, other, (("a", "b", "c", "d"), both),
                  (("a", "b", "c", "d"), both[:1] + (((2, 1, None, None), 1),) + both[1:]), (("a", "b"), (((2, 1), 1),)))

    def test_by_chance(self):
        chance = random.Random(63)
        seen = []
        for count in range(500):
            names = chance.sample("abcdef", chance.randrange(4)), chance.sample("abcdef", chance.randrange(4))
            one, other = [random_table(chance, each, 10) for each in names]
            together, with_lonely, alone = tried(one, other)
            seen.append((bool(together[1]), bool(alone[1])))
            self.told(one, other, together, with_lonely, alone)
        for found in ((True, True), (True, False), (False, True)):
            self.assertGreater(seen.count(found), 30, found)

    def test_more_than_may_be_handed_in(self):
        names = tuple("abcdef")
        one = (names, tuple(((n,) * 6, 10 ** 15 - 1) for n in range(200)))
        other = (tuple("ghijkl"), tuple(((n,) * 6, 10 ** 15 - 1) for n in range(200)))
        told = joined(one, other)
        self.assertIs(is_table(told), True)
        self.assertEqual((len(told[0]), len(told[1])), (12, 40000))
        self.assertEqual(told[1][1], ((0,) * 6 + (1,) * 6, (10 ** 15 - 1) * (10 ** 15 - 1)))
        self.assertEqual(kept(one, other), told)
        self.assertEqual(lonely(one, other), (names, ()))
        self.assertEqual(lonely(told, one), (told[0], ()))

    def test_told_things_are_told_again_as_they_were(self):
        for ask_it in (joined, kept, lonely):
            check_own(self, Store(), lambda: ask_it(PEOPLE, TOWNS))


if __name__ == "__main__":
    unittest.main()
