"""Point 12: plain walks, which come to no place twice."""

import random
import unittest

from making import random_way, same_kinds
from test_walks import FAR, random_store, small_store
from trying import (AB, AF, ANY, BF, EMPTY, FORTH, ROAD, STAR, check_own, is_plain, line_of, rising, store_of,
                    walks_tried)
from webstore.errors import NoPlace, TooMany
from webstore.plainwalks import plain_walks
from webstore.walks import is_walk


class PlainWalks(unittest.TestCase):
    def told(self, store, way, a, b, walks):
        told = plain_walks(store, way, a, b)
        self.assertTrue(same_kinds(told, walks), (told, walks))

    def too_many(self, store, way, a, b):
        with self.assertRaises(TooMany) as caught:
            plain_walks(store, way, a, b)
        self.assertIs(type(caught.exception), TooMany)

    def test_ties_alike_and_both_turns(self):
        store = small_store()
        self.told(store, AF, 0, 1, [((0, "forth"),), ((2, "forth"),)])
        self.told(store, STAR, 0, 1, [((0, "forth"),), ((2, "forth"),), ((3, "back"),)])
        self.told(store, STAR, 0, 3, [(leg, (4, "forth")) for leg in ((0, "forth"), (2, "forth"), (3, "back"))])
        self.told(store, STAR, 3, 0, [((4, "back"), leg) for leg in ((0, "back"), (2, "back"), (3, "forth"))])

    def test_none(self):
        store = small_store()
        for way, a, b in ((STAR, 0, 4), (EMPTY, 0, 1), (AF, 1, 0), (("many", AF, 2, 6), 0, 1), (FORTH, 3, 1)):
            self.told(store, way, a, b, [])

    def test_no_place_twice(self):
        store = small_store()
        for way in (("many", ANY, 3, 6), ("then", AF, ("then", BF, ("then", AF, BF))), ("then", AF, ("then", AB, ANY))):
            for b in (1, 3):
                self.told(store, way, 0, b, [])
        ring = store_of(4, [("a", 0, 1), ("a", 1, 2), ("a", 2, 0), ("a", 2, 3)])
        self.told(ring, ROAD, 0, 3, [((0, "forth"), (1, "forth"), (3, "forth"))])
        self.told(ring, ("many", AF, 4, 6), 0, 3, [])
        # The start counts, too, and the end: neither is come to on the way.
        self.told(store_of(3, [("a", 0, 1), ("a", 1, 0), ("b", 0, 2)]), ("then", AF, ("then", AF, BF)), 0, 2, [])
        self.told(store_of(3, [("a", 0, 1), ("a", 1, 2), ("a", 2, 1)]), ("many", AF, 3, 3), 0, 1, [])

    def test_from_a_place_to_itself(self):
        store = small_store()
        for place in (0, 1, 3, 4):
            for way in (EMPTY, STAR, ("many", ANY, 0, 3), ("or", AF, EMPTY)):
                self.told(store, way, place, place, [()])
            for way in (ANY, ("many", ANY, 1, 6), ("then", ANY, STAR), AF, ("then", AF, AB)):
                self.told(store, way, place, place, [])

    def test_ways_with_again_in_stores_with_rings(self):
        ring = store_of(4, [("a", 0, 1), ("a", 1, 2), ("a", 2, 3), ("a", 3, 0)])
        self.told(ring, STAR, 0, 2, [((0, "forth"), (1, "forth")), ((3, "back"), (2, "back"))])
        self.told(ring, STAR, 0, 1, [((0, "forth"),), ((3, "back"), (2, "back"), (1, "back"))])
        self.told(ring, ROAD, 0, 3, [((0, "forth"), (1, "forth"), (2, "forth"))])
        self.told(ring, ("again", ("then", ANY, ANY)), 0, 1, [])
        self.told(ring, ("then", ANY, ("again", ("then", ANY, ANY))), 0, 1, [
            ((0, "forth"),), ((3, "back"), (2, "back"), (1, "back"))])

    def test_each_walk_once_however_its_row_is_parted(self):
        store = line_of(1, 2, 1)
        walks = [((0, "forth"), (1, "forth"), (3, "forth")), ((0, "forth"), (2, "forth"), (3, "forth"))]
        for way in (("again", ("again", AF)), ("many", ("many", AF, 0, 6), 0, 6), ("then", ROAD, ROAD),
                    ("or", ROAD, ("again", ("or", AF, FORTH))), ("again", ("or", AF, ("then", AF, AF)))):
            self.told(store, way, 0, 3, walks)

    def test_rising(self):
        store = store_of(12, [("a", 0, 11)] + [("a", 0, n) for n in range(1, 11)] + [("a", n, 11) for n in range(1, 11)])
        walks = plain_walks(store, STAR, 0, 11)
        self.assertEqual(walks, rising(walks))
        self.assertEqual(walks, [((0, "forth"),)] + [((n, "forth"), (n + 10, "forth")) for n in range(1, 11)])
        store.add_tie("a", 1, 2, {})
        walks = plain_walks(store, STAR, 0, 11)
        self.assertEqual([len(walk) for walk in walks], [1] + [2] * 10 + [3] * 2)
        self.assertEqual(walks[-2:], [((1, "forth"), (21, "forth"), (12, "forth")),
                                      ((2, "forth"), (21, "back"), (11, "forth"))])

    def test_just_as_many_as_are_told_and_one_more(self):
        for many in ((200,), (5, 5, 8), (2, 2, 2, 5, 5), (1,) * 20 + (200,)):
            walks = plain_walks(line_of(*many), STAR, 0, len(many))
            self.assertEqual(len(set(walks)), 200)
            self.assertEqual(walks, rising(walks))
        for many in ((201,), (3, 67), (67, 3), (3,) * 39, (1,) * 20 + (3, 67)):
            self.too_many(line_of(*many), STAR, 0, len(many))

    def test_far_too_many(self):
        dense = store_of(16, [("a", high, low) for high in range(16) for low in range(high)])
        self.too_many(dense, STAR, 0, 15)
        self.assertEqual(len(plain_walks(dense, ("many", ANY, 0, 2), 0, 15)), 15)
        grid = store_of(36, [("a", n, n + 1) for n in range(36) if n % 6 < 5] + [("b", n, n + 6) for n in range(30)])
        self.too_many(grid, STAR, 0, 35)
        self.assertEqual(len(plain_walks(grid, ROAD, 0, 21)), 20)
        self.assertEqual(plain_walks(grid, ("again", ("then", ANY, ANY)), 0, 1), [])

    def test_many_heads_that_do_not_lead_there(self):
        store = line_of(*[3] * 20)
        for n in range(21, 30):
            store.add_place("p", {})
            if n > 22:
                store.add_tie("a", 0, n, {})
                store.add_tie("a", n, 20, {})
        store.add_tie("a", 20, 21, {})
        store.add_tie("b", 21, 20, {})
        store.add_tie("c", 20, 22, {})
        way = ("then", ("again", AF), ("then", BF, ("step", "c", "forth")))
        self.told(store, way, 0, 22, [])
        self.too_many(store, STAR, 0, 22)

    def test_no_place_ahead_of_all_else(self):
        store = small_store()
        for _ in range(201):
            store.add_tie("a", 0, 1, {})
        self.too_many(store, STAR, 0, 1)
        for n in FAR:
            for a, b in ((n, 0), (0, n), (n, n), (n, 1), (1, n)):
                for way in (STAR, EMPTY, AF):
                    with self.assertRaises(NoPlace) as caught:
                        plain_walks(store, way, a, b)
                    self.assertIs(type(caught.exception), NoPlace)

    def test_told_things_are_the_asker_s_own(self):
        store = small_store()
        for way, a, b in ((STAR, 0, 3), (EMPTY, 1, 1), (AF, 1, 0)):
            told = check_own(self, store, lambda: plain_walks(store, way, a, b))
        told = plain_walks(store, STAR, 0, 1)
        store.take_tie(0)
        self.assertEqual(told, [((0, "forth"),), ((2, "forth"),), ((3, "back"),)])
        self.assertEqual(plain_walks(store, STAR, 0, 1), told[1:])

    def test_by_trying_all(self):
        chance = random.Random(35)
        seen = []
        for count in range(500):
            store, way = random_store(chance), random_way(chance, 1 + count % 9)
            a, b = chance.choice(store.places()), chance.choice(store.places())
            # Of at most five places no plain walk has more than four legs.
            walks = walks_tried(store, way, a, b, 4)
            if walks is not None:
                plain = [walk for walk in walks if is_plain(store, a, walk)]
                seen.append(len(plain))
                self.told(store, way, a, b, plain)
        for number in (0, 1, 2, 3):
            self.assertGreater(seen.count(number), 4, number)

    def test_in_large_stores(self):
        chance = random.Random(36)
        store = store_of(40, [(chance.choice("abc"), chance.randrange(40), chance.randrange(40)) for _ in range(120)])
        told = 0
        for count in range(60):
            way = random_way(chance, 5, kinds=("a", "b", "c"))
            a, b = chance.randrange(40), chance.randrange(40)
            try:
                walks = plain_walks(store, way, a, b)
            except TooMany:
                continue
            told += len(walks)
            self.assertEqual(walks, rising(set(walks)))
            for walk in walks:
                self.assertIs(is_walk(store, way, a, b, walk), True)
                self.assertIs(is_plain(store, a, walk), True)
        self.assertGreater(told, 10)


if __name__ == "__main__":
    unittest.main()
