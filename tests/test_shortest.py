"""Point 11: the shortest walks, and levels."""

import random
import unittest

from making import random_way, same_kinds
from test_walks import FAR, random_store, small_store
from trying import (AB, AF, ANY, BF, EMPTY, FORTH, ROAD, STAR, check_own, line_of, rising, store_of, walks_tried)
from webstore.errors import NoPlace, NoWalk, TooMany
from webstore.fencecheck import shows_levels
from webstore.shortest import levels, shortest
from webstore.store import rows_of
from webstore.walks import fence, is_walk
from webstore.ways import is_way


class ShortestCase(unittest.TestCase):
    def told(self, store, way, a, b, number, walks):
        told = shortest(store, way, a, b)
        self.assertTrue(same_kinds(told, (number, walks)), (told, number, walks))

    def none(self, store, way, a, b):
        for ask in (shortest, levels):
            with self.assertRaises(NoWalk) as caught:
                ask(store, way, a, b)
            self.assertIs(type(caught.exception), NoWalk)


class Shortest(ShortestCase):
    def test_nought_legs(self):
        store = small_store()
        for place in (0, 1, 3, 4):
            for way in (EMPTY, STAR, ("many", AF, 0, 6), ("or", AF, EMPTY), ("again", ("then", AF, AB))):
                self.told(store, way, place, place, 0, [()])
                self.assertTrue(same_kinds(levels(store, way, place, place), []))

    def test_one_leg(self):
        store = small_store()
        self.told(store, AF, 0, 1, 1, [((0, "forth"),), ((2, "forth"),)])
        self.told(store, STAR, 0, 1, 1, [((0, "forth"),), ((2, "forth"),), ((3, "back"),)])
        self.told(store, STAR, 1, 0, 1, [((0, "back"),), ((2, "back"),), ((3, "forth"),)])
        self.told(store, ("step", "b", "either"), 1, 0, 1, [((3, "forth"),)])
        self.told(store, ("step", None, "back"), 1, 0, 1, [((0, "back"),), ((2, "back"),)])

    def test_many_legs(self):
        store = line_of(1, 2, 1, 1)
        self.told(store, ROAD, 0, 4, 4, [((0, "forth"), (1, "forth"), (3, "forth"), (4, "forth")),
                                         ((0, "forth"), (2, "forth"), (3, "forth"), (4, "forth"))])
        self.told(store, ("again", AB), 4, 1, 3, [((4, "back"), (3, "back"), (1, "back")),
                                                  ((4, "back"), (3, "back"), (2, "back"))])

    def test_a_tie_from_a_place_to_itself(self):
        store = small_store()
        self.told(store, ANY, 3, 3, 1, [((5, "back"),), ((5, "forth"),)])
        self.told(store, AF, 3, 3, 1, [((5, "forth"),)])
        self.told(store, ("many", AF, 3, 5), 3, 3, 3, [((5, "forth"),) * 3])
        self.told(store, ("many", ANY, 2, 2), 3, 3, 2, [
            ((4, "back"), (4, "forth")), ((5, "back"), (5, "back")), ((5, "back"), (5, "forth")),
            ((5, "forth"), (5, "back")), ((5, "forth"), (5, "forth"))])

    def test_each_walk_once_however_its_row_is_parted(self):
        store = line_of(1, 2, 1)
        walks = [((0, "forth"), (1, "forth"), (3, "forth")), ((0, "forth"), (2, "forth"), (3, "forth"))]
        for way in (("again", ("again", AF)), ("many", ("many", AF, 0, 6), 0, 6), ("then", ROAD, ROAD),
                    ("or", ROAD, ("again", ("or", AF, FORTH))), ("again", ("or", AF, ("then", AF, AF))),
                    ("then", ("or", AF, ("then", AF, AF)), ("or", AF, ("then", AF, AF)))):
            self.told(store, way, 0, 3, 3, walks)

    def test_back_to_a_place(self):
        store = small_store()
        way = ("then", AF, ("then", BF, ("then", AF, BF)))
        self.told(store, way, 0, 3, 4, [(one, (3, "forth"), other, (4, "forth"))
                                        for one in ((0, "forth"), (2, "forth")) for other in ((0, "forth"), (2, "forth"))])
        ring = store_of(3, [("a", 0, 1), ("a", 1, 2), ("a", 2, 0)])
        self.told(ring, ("many", AF, 4, 6), 0, 1, 4, [tuple((n % 3, "forth") for n in range(4))])
        self.told(ring, ("then", AF, ("again", AF)), 0, 0, 3, [((0, "forth"), (1, "forth"), (2, "forth"))])

    def test_none(self):
        store = small_store()
        for way, a, b in ((STAR, 0, 4), (EMPTY, 0, 1), (AF, 0, 0), (AF, 1, 0), (AF, 4, 4), (("many", AF, 2, 6), 0, 1),
                          (("then", BF, BF), 0, 3), (("step", "zz", "either"), 0, 1), (FORTH, 3, 0)):
            self.none(store, way, a, b)

    def test_just_as_many_as_are_told_and_one_more(self):
        for many, way in (((5, 5, 8), ROAD), ((200,), AF), ((2, 2, 2, 5, 5), ("again", ("again", AF)))):
            store = line_of(*many)
            number, walks = shortest(store, way, 0, len(many))
            self.assertEqual((number, len(walks)), (len(many), 200))
            self.assertEqual(walks, rising(set(walks)))
        store = line_of(5, 5, 8)
        store.add_tie("b", 0, 1, {})
        self.assertEqual(len(shortest(store, ("again", AF), 0, 3)[1]), 200)
        for many, way in (((3, 67), ROAD), ((201,), AF), ((67, 3), STAR), ((3,) * 39, ROAD)):
            with self.assertRaises(TooMany) as caught:
                shortest(line_of(*many), way, 0, len(many))
            self.assertIs(type(caught.exception), TooMany)

    def test_longer_walks_do_not_count(self):
        store = line_of(1, 1)
        for _ in range(110):
            store.add_tie("a", 0, 0, {})
        self.told(store, ROAD, 0, 2, 2, [((0, "forth"), (1, "forth"))])
        with self.assertRaises(TooMany):
            shortest(store, ("many", FORTH, 4, 4), 0, 2)

    def test_many_heads_that_do_not_lead_there(self):
        store = line_of(*[4] * 20)
        store.add_place("p", {})
        store.add_tie("b", 0, 21, {})
        self.told(store, ("then", ("again", AF), BF), 0, 21, 1, [((80, "forth"),)])
        self.none(store, ("then", ("many", AF, 1, 6), BF), 0, 21)

    def test_no_place_ahead_of_all_else(self):
        store = line_of(15, 15)
        store.add_place("p", {})
        store.add_place("p", {})
        store.take_place(3)
        for ask in (shortest, levels):
            for n in (3, 5, -1, -10 ** 12, 999, 10 ** 12 - 1):
                for a, b in ((n, 0), (0, n), (n, n), (n, 2), (2, n)):
                    for way in (EMPTY, AF, ROAD):
                        with self.assertRaises(NoPlace) as caught:
                            ask(store, way, a, b)
                        self.assertIs(type(caught.exception), NoPlace)
        self.none(store, ROAD, 0, 4)
        for n in FAR:
            with self.assertRaises(NoPlace):
                shortest(small_store(), STAR, 0, n)

    def test_told_things_are_the_asker_s_own(self):
        store = small_store()
        for way in (EMPTY, STAR, ("many", ANY, 2, 2)):
            told = check_own(self, store, lambda: shortest(store, way, 3, 3))
            store.add_tie("a", 3, 3, {})
            self.assertNotIn(6, [tie for walk in told[1] for tie, turn in walk])
            store.take_tie(store.ties()[-1])

    def test_by_trying_all(self):
        chance = random.Random(31)
        seen = []
        for count in range(400):
            store, way = random_store(chance), random_way(chance, 1 + count % 9)
            a, b = chance.choice(store.places()), chance.choice(store.places())
            walks = walks_tried(store, way, a, b, 4)
            if walks:
                fewest = [walk for walk in walks if len(walk) == len(walks[0])]
                if len(fewest) <= 200:
                    seen.append(len(fewest[0]))
                    self.told(store, way, a, b, len(fewest[0]), fewest)
            elif fence(store, way, a, b)[0] == "fence":
                seen.append(None)
                self.none(store, way, a, b)
        for number in (None, 0, 1, 2, 3):
            self.assertGreater(seen.count(number), 4, number)

    def test_in_large_stores(self):
        chance = random.Random(32)
        store = store_of(40, [(chance.choice("ab"), chance.randrange(40), chance.randrange(40)) for _ in range(120)])
        for count in range(40):
            way = random_way(chance, 12)
            a, b = chance.randrange(40), chance.randrange(40)
            word, walk = fence(store, way, a, b)
            if word == "fence":
                self.none(store, way, a, b)
                continue
            levelled = levels(store, way, a, b)
            self.assertIs(shows_levels(store, way, a, b, levelled), True)
            try:
                number, walks = shortest(store, way, a, b)
            except TooMany:
                continue
            self.assertEqual(number, len(levelled))
            self.assertEqual(walks, rising(set(walks)))
            for walk in walks:
                self.assertEqual(len(walk), number)
                self.assertIs(is_walk(store, way, a, b, walk), True)

    def test_rests_that_could_come_to_far_too_many_sets(self):
        chance = random.Random(33)
        store = store_of(40, [(chance.choice("ab"), n, n + 1) for n in range(39) for _ in range(1 + n % 2)])
        both = ("or", AF, BF)
        way = ("then", ("again", both), ("then", both, ("many", ("many", both, 6, 6), 6, 6)))
        number, walks = shortest(store, ("then", ("again", both), ("many", both, 6, 6)), 0, 12)
        self.assertEqual((number, len(walks)), (12, 64))
        with self.assertRaises(TooMany):
            shortest(store, way, 0, 39)
        self.assertEqual(len(levels(store, way, 0, 39)), 39)
        self.none(store, way, 0, 36)


class Levels(ShortestCase):
    def check(self, store, way, a, b):
        """Levels are told as the document says, as many as the fewest legs are; so many are told."""
        told = levels(store, way, a, b)
        self.assertIs(type(told), list)
        for level in told:
            self.assertIs(type(level), list)
            for pair in level:
                self.assertIs(type(pair), tuple)
                self.assertEqual((len(pair), is_way(pair[1]), pair[0] in store.places()), (2, True, True))
        self.assertIs(shows_levels(store, way, a, b, told), True)
        word, walk = fence(store, way, a, b)
        self.assertEqual(word, "walk")
        self.assertLessEqual(len(told), len(walk))
        return len(told)

    def test_by_hand(self):
        store = small_store()
        way = ("then", AF, BF)
        self.assertTrue(same_kinds(levels(store, way, 0, 3), [[(0, way)], [(1, BF)]]))
        self.assertTrue(same_kinds(levels(store, AF, 0, 1), [[(0, AF)]]))
        self.assertEqual(self.check(store, STAR, 0, 3), 2)
        self.assertEqual(self.check(store, STAR, 0, 1), 1)
        self.assertEqual(self.check(store, ("many", ("step", None, "forth"), 5, 6), 0, 3), 5)

    def test_nothing_is_refused_for_the_number_of_walks(self):
        for many in ((201,), (3,) * 39, (1, 3, 67)):
            store = line_of(*many)
            with self.assertRaises(TooMany):
                shortest(store, ROAD, 0, len(many))
            self.assertEqual(self.check(store, ROAD, 0, len(many)), len(many))

    def test_told_things_are_the_asker_s_own(self):
        store = line_of(1, 2, 1)
        for way, a, b in ((ROAD, 0, 3), (EMPTY, 0, 0), (STAR, 3, 0), (("many", AF, 0, 6), 0, 2)):
            told = check_own(self, store, lambda: levels(store, way, a, b))
            self.assertIs(shows_levels(store, way, a, b, told), True)
        rows = rows_of(store)
        told = levels(store, ROAD, 0, 3)
        store.take_tie(0)
        self.assertEqual(told, [[(0, ROAD)], [(1, ROAD)], [(2, ROAD)]])
        self.assertNotEqual(rows_of(store), rows)

    def test_as_many_as_the_fewest_legs(self):
        chance = random.Random(34)
        seen = []
        for count in range(300):
            store, way = random_store(chance, 7), random_way(chance, 1 + count % 12)
            a, b = chance.choice(store.places()), chance.choice(store.places())
            if fence(store, way, a, b)[0] == "fence":
                self.none(store, way, a, b)
                continue
            seen.append(self.check(store, way, a, b))
            try:
                self.assertEqual(shortest(store, way, a, b)[0], seen[-1])
            except TooMany:
                pass
            walks = walks_tried(store, way, a, b, min(seen[-1], 4))
            if walks is not None and seen[-1] <= 4:
                self.assertEqual({len(walk) for walk in walks}, {seen[-1]})
        for number in (0, 1, 2, 3):
            self.assertGreater(seen.count(number), 3, number)


if __name__ == "__main__":
    unittest.main()
