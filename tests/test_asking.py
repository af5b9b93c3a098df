"""Point 15: what a pattern is answered, the count of a row, and witnesses."""

import itertools
import random
import unittest

from laying import (SORTS, SPOT, bow_count, count_tried, ladder_of, lone_store, random_field_store, random_pattern,
                    rows_tried, town_store, walk_counts)
from making import same_kinds
from trying import AB, AF, ANY, BF, EMPTY, FORTH, ROAD, STAR, check_own, line_of, store_of
from webstore.asking import ask, laid, witness
from webstore.errors import NoEnd, TooMany
from webstore.laidcheck import shows_laid
from webstore.patterns import is_pattern
from webstore.store import rows_of

FAR = (2, 6, -1, -10 ** 12, 999, 10 ** 12 - 1)


class AskingCase(unittest.TestCase):
    def told(self, store, pattern, wanted):
        self.assertIs(is_pattern(pattern), True)
        told = ask(store, pattern)
        self.assertTrue(same_kinds(told, wanted), (told, wanted))
        for row, count in told:
            self.check_row(store, pattern, row, count)

    def rows(self, store, pattern, wanted):
        self.assertIs(is_pattern(pattern), True)
        self.assertEqual([row for row, count in ask(store, pattern)], wanted)

    def check_row(self, store, pattern, row, count):
        """A row has this count, and a witness that the checker takes."""
        for make in (tuple, list):
            self.assertTrue(same_kinds(laid(store, pattern, make(row)), count))
            walks = witness(store, pattern, make(row))
            self.assertIs(type(walks), list)
            self.assertEqual([type(walk) for walk in walks], [tuple] * len(pattern[1]))
            self.assertIs(shows_laid(store, pattern, make(row), walks), True)

    def no_end(self, store, pattern, wanted):
        with self.assertRaises(NoEnd) as caught:
            ask(store, pattern)
        self.assertIs(type(caught.exception), NoEnd)
        self.assertTrue(same_kinds(caught.exception.row, wanted), (caught.exception.row, wanted))
        self.check_row(store, pattern, wanted, None)

    def too_many(self, store, pattern):
        with self.assertRaises(TooMany) as caught:
            ask(store, pattern)
        self.assertIs(type(caught.exception), TooMany)


class Spots(AskingCase):
    def test_kinds_and_any_kind(self):
        store = town_store()
        self.told(store, ((SPOT,), (), ()), [((n,), 1) for n in (0, 1, 3, 4, 5)])
        self.told(store, ((("p", ("any",)),), (), ()), [((n,), 1) for n in (0, 1, 3)])
        self.told(store, ((("q", ("any",)),), (), ()), [((n,), 1) for n in (4, 5)])
        self.told(store, ((("r", ("any",)),), (), ()), [])

    def test_tests(self):
        store = town_store()
        for test, wanted in ((("has", "u"), (0, 1, 3, 5)), (("is", "u", 1), (0, 3)), (("over", "u", 1), (1,)),
                             (("under", "v", 5), (5,)), (("under", "v", "z"), (0, 4)), (("not", ("has", "v")), (1,)),
                             (("both", ("has", "u"), ("has", "v")), (0, 3, 5)), (("has", "w"), ()),
                             (("either", ("is", "u", 2), ("is", "v", 1)), (1, 5))):
            self.told(store, (((None, test),), (), ()), [((n,), 1) for n in wanted])
        self.told(store, ((("p", ("has", "v")),), (), ()), [((0,), 1), ((3,), 1)])

    def test_one_to_five_spots(self):
        store = lone_store(2)
        for many in range(1, 6):
            rows = list(itertools.product((0, 1), repeat=many))
            self.told(store, ((SPOT,) * many, (), ()), [(row, 1) for row in rows])

    def test_a_place_at_several_spots(self):
        store = town_store()
        self.told(store, ((("q", ("any",)),) * 2, (), ()), [((4, 4), 1), ((4, 5), 1), ((5, 4), 1), ((5, 5), 1)])

    def test_rising_by_numbers(self):
        store = lone_store(12)
        told = [row for row, count in ask(store, ((SPOT, SPOT), (), ()))]
        self.assertEqual(told, [(one, other) for one in range(12) for other in range(12)])

    def test_an_empty_store(self):
        for many in (1, 5):
            self.told(lone_store(0), ((SPOT,) * many, (), ()), [])


class Bows(AskingCase):
    def test_each_sort(self):
        store = town_store()
        for sort in SORTS:
            pattern = ((("p", ("any",)), SPOT), ((0, 1, sort, AF),), ())
            many = 1 if sort == "any" else 2
            self.told(store, pattern, [((0, 1), 1), ((0, 5), 1), ((1, 3), many)])
            self.told(store, ((("p", ("any",)), SPOT), ((1, 0, sort, AF),), ()), [((1, 0), 1), ((3, 1), many)])

    def test_counts_by_sort(self):
        # From 0 to 2: one walk of one leg, two of two legs, and those that go round the ring at 1.
        store = store_of(3, [("a", 0, 2), ("a", 0, 1), ("a", 0, 1), ("a", 1, 2), ("b", 1, 1)])
        way = ("many", FORTH, 0, 4)
        for sort, count in (("all", 7), ("short", 1), ("plain", 3), ("any", 1)):
            pattern = (((None, ("any",)),) * 2, ((0, 1, sort, way),), ())
            self.assertIn(((0, 2), count), ask(store, pattern))
            self.assertEqual(laid(store, pattern, (0, 2)), count)
            self.assertEqual(ask(store, pattern), rows_tried(store, pattern))
        for sort, count in (("all", 6), ("short", 2), ("plain", 2), ("any", 1)):
            pattern = ((SPOT,) * 2, ((0, 1, sort, ("many", FORTH, 2, 4)),), ())
            self.assertEqual(laid(store, pattern, (0, 2)), count)

    def test_from_a_spot_to_itself(self):
        store = store_of(3, [("a", 0, 1), ("a", 1, 0), ("b", 2, 2), ("b", 2, 2)])
        loops = ("many", FORTH, 1, 2)
        for sort, wanted in (("all", [((0,), 1), ((1,), 1), ((2,), 6)]), ("short", [((0,), 1), ((1,), 1), ((2,), 2)]),
                             ("any", [((0,), 1), ((1,), 1), ((2,), 1)]), ("plain", [])):
            self.told(store, ((SPOT,), ((0, 0, sort, loops),), ()), wanted)
        for sort in SORTS:
            self.told(store, ((SPOT,), ((0, 0, sort, EMPTY),), ()), [((0,), 1), ((1,), 1), ((2,), 1)])
            self.told(store, ((SPOT,), ((0, 0, sort, AF),), ()), [])
        self.told(store, ((SPOT,), ((0, 0, "plain", ("many", ANY, 0, 3)),), ()), [((0,), 1), ((1,), 1), ((2,), 1)])

    def test_two_bows_between_the_same_spots(self):
        store = store_of(2, [("a", 0, 1)] * 3 + [("b", 0, 1)] * 2 + [("b", 1, 0)])
        spots = (SPOT, SPOT)
        self.told(store, (spots, ((0, 1, "all", AF), (0, 1, "all", BF)), ()), [((0, 1), 6)])
        self.told(store, (spots, ((0, 1, "all", AF), (0, 1, "all", AF)), ()), [((0, 1), 9)])
        self.told(store, (spots, ((0, 1, "all", AF), (0, 1, "any", BF)), ()), [((0, 1), 3)])
        self.told(store, (spots, ((0, 1, "all", AF), (1, 0, "all", BF)), ()), [((0, 1), 3)])
        self.told(store, (spots, ((0, 1, "all", AF), (1, 0, "all", AF)), ()), [])
        self.told(store, (spots, ((1, 0, "short", AF), (0, 1, "plain", AB)), ()), [((1, 0), 9)])

    def test_counts_are_the_product(self):
        store = line_of(2, 3, 5)
        bows = ((0, 1, "all", AF), (1, 2, "short", AF), (2, 3, "plain", AF))
        self.told(store, ((SPOT,) * 4, bows, ()), [((0, 1, 2, 3), 30)])
        self.told(store, ((SPOT,) * 4, bows + ((0, 3, "all", ROAD),), ()), [((0, 1, 2, 3), 900)])
        self.told(store, ((SPOT,) * 4, bows + ((0, 3, "any", ROAD), (3, 0, "all", ("again", AB))), ()),
                  [((0, 1, 2, 3), 900)])
        self.told(store, ((SPOT,) * 4, bows + ((3, 0, "all", AB),), ()), [])

    def test_counts_beyond_what_may_be_told_as_walks(self):
        store = line_of(*[3] * 39)
        ends = ((None, ("any",)), (None, ("any",)))
        for sort in ("all", "short", "plain"):
            pattern = (ends, ((0, 1, sort, ("many", ("many", AF, 6, 6), 6, 6)),), ())
            self.assertEqual(ask(store, pattern), [((n, n + 36), 3 ** 36) for n in range(4)])
            self.assertEqual(laid(store, pattern, (2, 38)), 3 ** 36)
            self.assertEqual(laid(store, pattern, (2, 37)), 0)
        pattern = (ends, ((0, 1, "any", ("many", ("many", AF, 6, 6), 6, 6)),), ())
        self.assertEqual(ask(store, pattern), [((n, n + 36), 1) for n in range(4)])
        for sort in ("all", "short", "plain"):
            self.told(line_of(201), ((SPOT,) * 2, ((0, 1, sort, AF), (1, 0, sort, AB)), ()), [((0, 1), 201 * 201)])

    def test_each_walk_once_however_its_row_is_parted(self):
        store = line_of(2, 2, 2)
        for sort in ("all", "short", "plain"):
            for way in (("again", ("again", AF)), ("then", ROAD, ROAD), ("again", ("or", AF, ("then", AF, AF)))):
                self.assertEqual(laid(store, ((SPOT,) * 2, ((0, 1, sort, way),), ()), (0, 3)), 8)

    def test_a_short_walk_that_comes_back_to_a_place(self):
        store = store_of(3, [("a", 0, 1), ("b", 1, 1), ("a", 1, 2)])
        way = ("then", AF, ("then", BF, AF))
        for sort, wanted in (("all", [((0, 2), 1)]), ("short", [((0, 2), 1)]), ("any", [((0, 2), 1)]), ("plain", [])):
            self.told(store, ((SPOT,) * 2, ((0, 1, sort, way),), ()), wanted)


class Pairs(AskingCase):
    def test_unlike(self):
        store = lone_store(3)
        self.told(store, ((SPOT,) * 2, (), (("unlike", 0, 1),)),
                  [(row, 1) for row in itertools.permutations(range(3), 2)])
        self.told(store, ((SPOT,) * 3, (), (("unlike", 0, 1), ("unlike", 2, 1), ("unlike", 0, 2))),
                  [(row, 1) for row in itertools.permutations(range(3), 3)])
        self.told(store, ((SPOT,), (), (("unlike", 0, 0),)), [])
        self.told(store, ((SPOT,) * 2, (), (("unlike", 1, 1),)), [])

    def test_same(self):
        store = town_store()
        spots = (SPOT, SPOT)
        self.rows(store, (spots, (), (("same", 0, "u", 1, "u"),)), [(0, 0), (0, 3), (1, 1), (3, 0), (3, 3), (5, 5)])
        self.rows(store, (spots, (), (("same", 0, "u", 1, "v"),)), [(0, 5), (3, 5), (5, 0), (5, 4)])
        self.rows(store, (spots, (), (("same", 1, "u", 0, "v"),)), [(0, 5), (4, 5), (5, 0), (5, 3)])
        self.rows(store, (spots, (), (("same", 0, "w", 1, "w"),)), [])
        self.rows(store, (spots, (), (("same", 0, "u", 1, "w"),)), [])
        self.rows(store, ((SPOT,), (), (("same", 0, "u", 0, "u"),)), [(0,), (1,), (3,), (5,)])
        self.rows(store, ((SPOT,), (), (("same", 0, "u", 0, "v"),)), [])
        store.set_place(4, "u", "x")
        self.rows(store, ((SPOT,), (), (("same", 0, "u", 0, "v"),)), [(4,)])

    def test_under(self):
        store = town_store()
        spots = (SPOT, SPOT)
        self.rows(store, (spots, (), (("under", 0, "u", 1, "u"),)), [(0, 1), (3, 1)])
        self.rows(store, (spots, (), (("under", 1, "u", 0, "u"),)), [(1, 0), (1, 3)])
        self.rows(store, (spots, (), (("under", 0, "u", 1, "v"),)), [(0, 3), (1, 3), (3, 3)])
        self.rows(store, (spots, (), (("under", 0, "v", 1, "u"),)), [(5, 1)])
        self.rows(store, (spots, (), (("under", 0, "w", 1, "u"),)), [])
        self.rows(store, (spots, (), (("under", 0, "u", 1, "w"),)), [])
        self.rows(store, ((SPOT,), (), (("under", 0, "u", 0, "u"),)), [])
        self.rows(store, ((SPOT,), (), (("under", 0, "u", 0, "v"),)), [(3,)])
        store.set_place(1, "v", "a")
        store.set_place(1, "u", "0")
        self.rows(store, ((SPOT,), (), (("under", 0, "u", 0, "v"),)), [(1,), (3,)])

    def test_numbers_and_texts_are_not_the_same(self):
        store = lone_store(2)
        store.set_place(0, "n", 1)
        store.set_place(1, "n", "1")
        for word, wanted in (("same", [(0, 0), (1, 1)]), ("under", [])):
            self.rows(store, ((SPOT,) * 2, (), ((word, 0, "n", 1, "n"),)), wanted)

    def test_all_pairs_and_bows_must_be_so(self):
        store = town_store()
        bow = (0, 1, "all", AF)
        self.rows(store, ((SPOT,) * 2, (bow,), ()), [(0, 1), (0, 5), (1, 3)])
        self.rows(store, ((SPOT,) * 2, (bow,), (("under", 0, "u", 1, "u"),)), [(0, 1)])
        self.rows(store, ((SPOT,) * 2, (bow,), (("under", 1, "u", 0, "u"),)), [(1, 3)])
        self.rows(store, ((SPOT,) * 2, (bow,), (("under", 1, "u", 0, "u"), ("same", 0, "u", 1, "v"))), [])


class NoEnds(AskingCase):
    def test_the_first_row_without_end(self):
        store = store_of(4, [("a", 0, 1), ("a", 1, 1), ("a", 2, 2), ("a", 3, 2)])
        self.no_end(store, ((SPOT,) * 2, ((0, 1, "all", ROAD),), ()), (0, 1))
        self.no_end(store, ((SPOT,) * 2, ((1, 0, "all", ROAD),), ()), (1, 0))
        self.no_end(store, ((SPOT,) * 3, ((2, 0, "all", ROAD),), ()), (1, 0, 0))
        self.no_end(store, ((SPOT,), ((0, 0, "all", ROAD),), ()), (1,))
        for sort in ("short", "plain", "any"):
            self.rows(store, ((SPOT,) * 2, ((0, 1, sort, ROAD),), ()),
                      [(0, 0), (0, 1), (1, 1), (2, 2), (3, 2), (3, 3)])

    def test_of_several_bows_the_first_row_of_all(self):
        store = store_of(6, [("a", 0, 1), ("b", 1, 1), ("a", 2, 3), ("b", 2, 2), ("a", 4, 5)])
        spots = (SPOT,) * 4
        late = (0, 1, "all", ("then", AF, ("again", BF)))
        early = (2, 3, "all", ("then", ("again", BF), AF))
        for bows in ((late, early), (early, late)):
            self.no_end(store, (spots, bows, ()), (0, 1, 0, 1))
            self.no_end(store, ((("p", ("any",)),) * 4, bows, (("unlike", 0, 2),)), (0, 1, 2, 3))
        store.take_tie(1)
        for bows in ((late, early), (early, late)):
            self.no_end(store, (spots, bows, ()), (0, 1, 2, 3))
        store.take_tie(3)
        for bows in ((late, early), (early, late)):
            self.assertEqual(len(ask(store, (spots, bows, ()))), 9)

    def test_a_row_that_does_not_lay_it_is_no_reason(self):
        store = town_store()
        store.add_tie("a", 3, 3, {})
        spots = (("p", ("any",)), ("p", ("any",)))
        road = ("again", AF)
        self.no_end(store, (spots, ((0, 1, "all", road),), ()), (0, 3))
        # By a kind, by a test, by a pair, by another bow.
        self.rows(store, ((("p", ("any",)), ("q", ("any",))), ((0, 1, "all", road),), ()), [(0, 5)])
        self.rows(store, ((SPOT, ("p", ("not", ("is", "v", 5)))), ((0, 1, "all", road),), ()), [(0, 0), (0, 1), (1, 1)])
        self.rows(store, (spots, ((0, 1, "all", road),), (("under", 0, "u", 1, "u"),)), [(0, 1)])
        self.rows(store, (spots, ((0, 1, "all", road), (1, 0, "any", EMPTY)), (("unlike", 0, 1),)), [])
        self.rows(store, (spots, ((0, 1, "all", road), (1, 0, "plain", STAR)), (("under", 1, "v", 0, "u"),)), [])
        self.rows(store, (spots, ((0, 1, "all", road), (0, 1, "any", AF)), (("unlike", 0, 1), ("under", 0, "u", 1, "u"))),
                  [(0, 1)])
        self.no_end(store, (spots, ((0, 1, "all", road), (0, 1, "any", AF)), ()), (1, 3))

    def test_rings_that_do_not_count(self):
        store = store_of(4, [("a", 0, 1), ("a", 0, 2), ("a", 2, 2), ("b", 1, 1)])
        self.told(store, ((SPOT, (None, ("any",))), ((0, 1, "all", ("then", AF, ("many", BF, 0, 3))),), ()),
                  [((0, 1), 4), ((0, 2), 1), ((2, 2), 1)])

    def test_ahead_of_too_many(self):
        store = lone_store(20)
        store.add_tie("a", 19, 19, {})
        star = ("again", AF)
        self.too_many(store, ((SPOT,) * 3, (), ()))
        self.no_end(store, ((SPOT,) * 3, ((2, 2, "all", star),), ()), (0, 0, 19))
        self.no_end(store, ((SPOT,) * 5, ((4, 4, "all", star), (3, 4, "any", EMPTY)), (("unlike", 0, 3),)),
                    (0, 0, 0, 19, 19))
        self.too_many(store, ((SPOT,) * 3, ((2, 2, "short", star),), ()))
        self.too_many(store, ((SPOT,) * 3, ((2, 2, "all", ("many", AF, 0, 6)),), ()))
        self.too_many(store, ((SPOT,) * 5, ((3, 4, "all", star),), (("unlike", 3, 0), ("under", 3, "n", 2, "n"))))
        self.no_end(store, ((SPOT,) * 5, ((3, 4, "all", star),), (("unlike", 3, 0), ("under", 2, "n", 3, "n"))),
                    (0, 0, 0, 19, 19))


class TooManyRows(AskingCase):
    def test_just_as_many_as_are_told_and_one_more(self):
        for many, wanted in ((200, False), (201, True)):
            self.told_or_too_many(lone_store(many), ((SPOT,), (), ()), many, wanted)
        store = lone_store(40)
        for more, wanted in ((5, False), (6, True)):
            pattern = ((SPOT, (None, ("under", "n", more))), (), ())
            self.told_or_too_many(store, pattern, 40 * more, wanted)
        store = ladder_of(21)
        for way, many in ((FORTH, 210), (("many", FORTH, 2, 2), 190), (("many", FORTH, 0, 0), 21)):
            self.told_or_too_many(store, ((SPOT,) * 2, ((0, 1, "all", way),), ()), many, many > 200)

    def told_or_too_many(self, store, pattern, many, wanted):
        if wanted:
            self.too_many(store, pattern)
        else:
            told = ask(store, pattern)
            self.assertEqual(len(told), many)
            self.assertEqual(told, sorted(told))

    def test_far_too_many(self):
        store = lone_store(40)
        self.too_many(store, ((SPOT,) * 5, (), ()))
        self.too_many(store, ((SPOT,) * 5, ((4, 4, "all", EMPTY),), (("unlike", 0, 4),)))
        ring = store_of(40, [("a", n, (n + 1) % 40) for n in range(40)])
        for sort in ("short", "plain", "any"):
            self.too_many(ring, ((SPOT,) * 5, tuple((n, n + 1, sort, STAR) for n in range(4)), ()))

    def test_few_rows_among_many_that_could_be(self):
        store = line_of(*[3] * 39)
        for sort in SORTS:
            pattern = ((SPOT,) * 5, tuple((n, 4, sort, AF) for n in range(4)), ())
            count = 1 if sort == "any" else 81
            self.assertEqual(ask(store, pattern), [((n, n, n, n, n + 1), count) for n in range(39)])
            pattern = ((SPOT,) * 5, tuple((n, (n + 1) % 5, sort, ROAD) for n in range(5)), ())
            self.assertEqual(ask(store, pattern), [((n,) * 5, 1) for n in range(40)])
        store = lone_store(40)
        spots = (SPOT,) * 5
        rising = tuple(("under", n, "n", n + 1, "n") for n in range(4))
        self.told(store, (spots, (), rising + (("under", 4, "n", 0, "n"),)), [])
        self.told(store, (spots, (), (("under", 2, "n", 3, "n"), ("under", 3, "n", 4, "n"), ("under", 4, "n", 2, "n"))), [])
        self.told(store, (spots, (), (("under", 0, "n", 2, "n"), ("under", 2, "n", 4, "n"), ("under", 4, "n", 0, "n"))), [])
        for n in range(6, 40):
            store.take_place(n)
        self.rows(store, (spots, (), rising), list(itertools.combinations(range(6), 5)))


class Laid(AskingCase):
    def setUp(self):
        self.store = town_store()
        self.pattern = ((("p", ("any",)), SPOT), ((0, 1, "all", AF),), (("unlike", 0, 1),))

    def count(self, row, wanted):
        for make in (tuple, list):
            self.assertTrue(same_kinds(laid(self.store, self.pattern, make(row)), wanted), row)

    def test_rows_that_lay_it_and_that_do_not(self):
        for one in (0, 1, 3, 4, 5):
            for other in (0, 1, 3, 4, 5):
                self.count((one, other), {(0, 1): 1, (0, 5): 1, (1, 3): 2}.get((one, other), 0))

    def test_too_long_and_too_short(self):
        for row in ((), (0,), (1,), (0, 1, 3), (0, 1, 1), (0, 1) * 3, (1, 3, 0, 0, 0, 0)):
            self.count(row, 0)

    def test_numbers_that_are_no_places(self):
        for n in FAR:
            for row in ((n, 1), (0, n), (n, n), (n,), (0, 1, n)):
                self.count(row, 0)
        self.pattern = ((SPOT,), (), ())
        for n in FAR:
            self.count((n,), 0)
        self.count((4,), 1)

    def test_a_count_without_end(self):
        self.store.add_tie("a", 3, 3, {})
        self.pattern = ((SPOT, SPOT), ((0, 1, "all", ("again", AF)), (0, 1, "any", STAR)), ())
        self.count((1, 3), None)
        self.count((3, 3), None)
        self.count((0, 1), 1)
        self.count((3, 1), 0)
        self.count((3, 2), 0)
        # Without end by one bow, but not laid by another one, or by a pair.
        self.pattern = ((SPOT, SPOT), ((0, 1, "all", ("again", AF)), (1, 0, "any", AF)), ())
        self.count((1, 3), 0)
        self.count((3, 3), None)
        self.pattern = ((SPOT, SPOT), ((0, 1, "all", ("again", AF)),), (("unlike", 0, 1),))
        self.count((3, 3), 0)
        self.count((1, 3), None)
        self.pattern = ((SPOT, ("q", ("any",))), ((0, 1, "all", ("again", AF)),), ())
        self.count((1, 3), 0)

    def test_nothing_is_refused(self):
        self.store = line_of(*[3] * 39)
        self.store.add_tie("b", 39, 0, {})
        for sort, counts in (("all", (None, 3 ** 39)), ("short", (3 ** 39,) * 2), ("plain", (3 ** 39,) * 2), ("any", (1, 1))):
            for way, count in zip((ROAD, ("again", AF)), counts):
                self.pattern = ((SPOT,) * 2, ((0, 1, sort, way),), ())
                self.count((0, 39), count)


class Witness(AskingCase):
    def test_by_sort(self):
        store = store_of(4, [("a", 0, 1), ("b", 1, 1), ("a", 1, 2), ("a", 0, 3), ("a", 3, 2)])
        way = ("or", ("then", AF, ("then", BF, AF)), ("then", AF, ("then", AF, EMPTY)))
        spots = (SPOT, SPOT)
        for sort in SORTS:
            pattern = (spots, ((0, 1, sort, way), (0, 1, sort, way)), ())
            walks = witness(store, pattern, (0, 2))
            self.assertEqual(len(walks), 2)
            for walk in walks:
                self.assertTrue(walk_counts(store, pattern[1][0], 0, 2, walk), (sort, walk))
        long_way = ("then", AF, ("then", BF, AF))
        for sort in ("all", "any", "short"):
            pattern = (spots, ((0, 1, sort, long_way),), ())
            self.assertEqual(witness(store, pattern, [0, 2]), [((0, "forth"), (1, "forth"), (2, "forth"))])

    def test_a_plain_one_where_the_shortest_are_not(self):
        # Three legs: round the ring at 1, or over 3 and 4.
        store = store_of(5, [("a", 0, 1), ("a", 1, 1), ("a", 1, 2), ("a", 0, 3), ("a", 3, 4), ("a", 4, 2)])
        pattern = ((SPOT,) * 2, ((0, 1, "plain", ("many", AF, 3, 6)),), ())
        self.assertEqual(witness(store, pattern, (0, 2)), [((3, "forth"), (4, "forth"), (5, "forth"))])
        self.told(store, pattern, [((0, 2), 1)])

    def test_no_bows(self):
        store = town_store()
        self.assertTrue(same_kinds(witness(store, ((SPOT,) * 2, (), ()), (0, 0)), []))

    def test_where_the_count_is_without_end(self):
        store = town_store()
        pattern = ((SPOT,) * 2, ((0, 1, "all", STAR), (1, 0, "plain", STAR), (1, 1, "all", STAR)), ())
        self.check_row(store, pattern, (0, 4), None)

    def test_of_far_too_many_plain_walks(self):
        store = store_of(16, [("a", high, low) for high in range(16) for low in range(high)])
        pattern = ((SPOT,) * 2, ((0, 1, "plain", ("then", ("many", ANY, 6, 6), STAR)),), ())
        walks = witness(store, pattern, (0, 15))
        self.assertIs(shows_laid(store, pattern, (0, 15), walks), True)


class ByTryingAll(AskingCase):
    def check(self, store, pattern):
        """What is asked is told as trying all tells it, or refused so; what came of it is told."""
        try:
            wanted = rows_tried(store, pattern)
        except TooMany:
            return None
        endless = [row for row, count in wanted if count is None]
        for row, count in wanted[:6]:
            self.check_row(store, pattern, row, count)
        if endless:
            self.no_end(store, pattern, endless[0])
            return "no end"
        if len(wanted) > 200:
            self.too_many(store, pattern)
            return "too many"
        self.told(store, pattern, wanted)
        return min(len(wanted), 3)

    def test_by_chance(self):
        chance = random.Random(51)
        seen = []
        for count in range(2000):
            pattern = random_pattern(chance, 1 + count % 3, chance.randrange(3), chance.choice((0, 0, 1, 2)))
            seen.append(self.check(random_field_store(chance), pattern))
        for found in ("no end", 0, 1, 2, 3):
            self.assertGreater(seen.count(found), 8, found)

    def test_looser_ones(self):
        chance = random.Random(52)
        seen = []
        for count in range(120):
            spots = 2 + count % 3
            bows = tuple((chance.randrange(spots), chance.randrange(spots), chance.choice(SORTS),
                          chance.choice((STAR, ROAD, ("many", ANY, 0, 2), ("or", AF, ("many", BF, 0, 2)))))
                         for _ in range(chance.randrange(1, 4)))
            pattern = ((SPOT,) * spots, bows, random_pattern(chance, spots, 0, chance.randrange(2))[2])
            seen.append(self.check(random_field_store(chance, 5), pattern))
        for found in ("no end", 3):
            self.assertGreater(seen.count(found), 8, found)

    def test_laid_rows_of_any_numbers(self):
        chance = random.Random(53)
        for count in range(300):
            store = random_field_store(chance)
            pattern = random_pattern(chance, 1 + count % 3, chance.randrange(3), chance.randrange(2), size=3)
            row = tuple(chance.randrange(-1, 7) for _ in range(chance.randrange(5)))
            is_row = len(row) == len(pattern[0]) and all(place in store.places() for place in row)
            wanted = count_tried(store, pattern, row) if is_row else 0
            self.assertTrue(same_kinds(laid(store, pattern, row), wanted))

    def test_four_and_five_spots(self):
        chance = random.Random(54)
        for count in range(25):
            store = random_field_store(chance, 4)
            self.check(store, random_pattern(chance, 4 + count % 2, chance.randrange(6), chance.randrange(4), size=2))

    def test_in_large_stores(self):
        chance = random.Random(55)
        store = store_of(40, [(chance.choice("abc"), chance.randrange(40), chance.randrange(40)) for _ in range(120)])
        for n in store.places():
            store.set_place(n, "u", n % 7)
        steps = [("step", kind, turn) for kind in "abc" for turn in ("forth", "back", "either")]
        told = 0
        for count in range(16):
            bows = tuple((n, (n + 1) % 5, SORTS[(n + count) % 4], chance.choice(steps)) for n in range(5))
            pattern = ((SPOT,) * 5, bows, (("same", 0, "u", 2, "u"), ("unlike", 1, 3)))
            try:
                answers = ask(store, pattern)
            except TooMany:
                continue
            told += len(answers)
            for row, number in answers:
                self.check_row(store, pattern, row, number)
                product = 1
                for bow in bows:
                    product *= bow_count(store, bow, row[bow[0]], row[bow[1]])
                self.assertEqual(number, product)
            # Each row is found, too, when four of its five places are known.
            for row, number in answers[:3]:
                for place in store.places():
                    other = row[:4] + (place,)
                    self.assertEqual(laid(store, pattern, other), dict(answers).get(other, 0))
        self.assertGreater(told, 10)


class Own(AskingCase):
    def test_told_things_are_the_asker_s_own(self):
        store = town_store()
        for pattern in (((SPOT,), (), ()), ((SPOT,) * 2, ((0, 1, "all", AF),), ()), ((("r", ("any",)),), (), ())):
            check_own(self, store, lambda: ask(store, pattern))
        pattern = ((SPOT,) * 2, ((0, 1, "all", AF), (1, 0, "short", STAR)), ())
        told = check_own(self, store, lambda: witness(store, pattern, (0, 1)))
        answers = ask(store, pattern)
        store.take_tie(0)
        self.assertEqual(answers[0][0], (0, 1))
        self.assertEqual(told[0], ((0, "forth"),))
        self.assertNotEqual(ask(store, pattern), answers)

    def test_what_is_handed_in_stays(self):
        store = town_store()
        rows = rows_of(store)
        row = [1, 3]
        pattern = ((SPOT,) * 2, ((0, 1, "all", AF),), ())
        laid(store, pattern, row)
        witness(store, pattern, row)
        shows_laid(store, pattern, row, [[(1, "forth")]])
        self.assertEqual(row, [1, 3])
        self.assertTrue(same_kinds(rows_of(store), rows))


if __name__ == "__main__":
    unittest.main()
