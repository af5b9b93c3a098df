"""Point 13: how many walks there are, and all of them."""

import random
import unittest

from making import random_way, same_kinds
from test_walks import FAR, random_store, small_store
from trying import (AB, AF, ANY, BF, EMPTY, FORTH, ROAD, STAR, check_own, line_of, rising, steps_of, store_of,
                    walks_tried)
from webstore.counting import all_walks, how_many
from webstore.errors import Endless, NoPlace, TooMany
from webstore.loopcheck import shows_loop
from webstore.store import rows_of
from webstore.walks import is_walk, legs_at
from webstore.ways import rests, tells


class CountingCase(unittest.TestCase):
    def counted(self, store, way, a, b, number):
        told = how_many(store, way, a, b)
        self.assertTrue(same_kinds(told, number), (told, number))
        if number <= 200:
            walks = all_walks(store, way, a, b)
            self.assertEqual(len(walks), number)
            self.check_walks(store, way, a, b, walks)
        else:
            self.too_many(store, way, a, b)

    def check_walks(self, store, way, a, b, walks):
        self.assertIs(type(walks), list)
        self.assertEqual(walks, rising(set(walks)))
        for walk in walks:
            self.assertIs(type(walk), tuple)
            self.assertIs(is_walk(store, way, a, b, walk), True)

    def too_many(self, store, way, a, b):
        with self.assertRaises(TooMany) as caught:
            all_walks(store, way, a, b)
        self.assertIs(type(caught.exception), TooMany)

    def endless(self, store, way, a, b):
        """Both are refused with Endless, and with a loop as the document says; the loop is told."""
        for ask in (how_many, all_walks):
            with self.assertRaises(Endless) as caught:
                ask(store, way, a, b)
            self.assertIs(type(caught.exception), Endless)
            loop = caught.exception.loop
            self.assertIs(type(loop), tuple)
            self.assertEqual([type(part) for part in loop], [tuple] * 3)
            self.assertIs(shows_loop(store, way, a, b, loop), True)
            head, ring, tail = loop
            self.assertGreater(len(ring), 0)
            for times in (0, 1, 2, 3, 7):
                self.assertIs(is_walk(store, way, a, b, head + ring * times + tail), True, loop)
        return loop


class HowMany(CountingCase):
    def test_none_and_one(self):
        store = small_store()
        for way, a, b in ((STAR, 0, 4), (EMPTY, 0, 1), (AF, 1, 0), (AF, 4, 4), (("many", AF, 2, 6), 0, 1)):
            self.counted(store, way, a, b, 0)
            self.assertEqual(all_walks(store, way, a, b), [])
        for way, a, b in ((EMPTY, 0, 0), (STAR, 4, 4), (BF, 1, 3), (("many", AF, 6, 6), 3, 3)):
            self.counted(store, way, a, b, 1)
        self.assertTrue(same_kinds(all_walks(store, EMPTY, 0, 0), [()]))

    def test_some(self):
        store = small_store()
        self.counted(store, AF, 0, 1, 2)
        self.counted(store, ("step", None, "either"), 0, 1, 3)
        self.counted(store, ("many", ANY, 2, 2), 3, 3, 5)
        self.counted(store, ("many", AF, 0, 6), 3, 3, 7)
        self.counted(store, ("many", ("step", "a", "either"), 0, 4), 3, 3, 31)
        self.assertTrue(same_kinds(all_walks(store, ("many", AF, 0, 2), 3, 3), [
            (), ((5, "forth"),), ((5, "forth"), (5, "forth"))]))

    def test_far_beyond_what_could_be_gone_through(self):
        self.counted(line_of(*[3] * 39), ROAD, 0, 39, 3 ** 39)
        self.counted(line_of(*[3] * 39), ROAD, 1, 38, 3 ** 37)
        self.counted(line_of(4, 5, 6, 7, 8, 9), ("many", AF, 0, 6), 0, 6, 4 * 5 * 6 * 7 * 8 * 9)
        self.counted(line_of(*[3] * 39), ("again", ("then", AF, AF)), 0, 38, 3 ** 38)
        self.counted(line_of(*[3] * 39), ("again", ("then", AF, AF)), 0, 39, 0)
        self.counted(line_of(*[3] * 39), ("again", AB), 39, 0, 3 ** 39)
        steps = line_of(*[1] * 39)
        for n in range(38):
            steps.add_tie("b", n, n + 2, {})
        one, other = 1, 1
        for _ in range(38):
            one, other = other, one + other
        self.counted(steps, ROAD, 0, 39, other)
        ring = store_of(1, [("a", 0, 0)] * 100)
        self.counted(ring, ("many", ("many", AF, 6, 6), 6, 6), 0, 0, 100 ** 36)

    def test_each_walk_once_however_its_row_is_parted(self):
        store = line_of(*[3] * 20)
        for way in (("again", ("again", AF)), ("then", ROAD, ROAD), ("or", ROAD, ("again", ("or", AF, FORTH))),
                    ("again", ("or", AF, ("then", AF, AF))), ("many", ("many", AF, 0, 6), 0, 6),
                    ("many", ("again", AF), 2, 5), ("then", ("again", AF), ("many", ("or", AF, EMPTY), 0, 6))):
            self.counted(store, way, 0, 20, 3 ** 20)
        store = line_of(2, 3)
        for way in (("many", ("or", AF, EMPTY), 2, 6), ("then", ("or", AF, EMPTY), ("many", AF, 1, 2))):
            self.counted(store, way, 0, 2, 6)
            self.counted(store, way, 0, 1, 2)

    def test_rings_of_which_no_walk_comes(self):
        # From the ring at 3 the end at 0 can't be reached any more; the one at 4 isn't reached.
        store = store_of(5, [("a", 0, 1), ("a", 1, 2), ("a", 0, 3), ("a", 3, 3), ("a", 4, 4), ("a", 4, 0)])
        self.counted(store, ROAD, 0, 2, 1)
        self.counted(store, ROAD, 0, 1, 1)
        self.endless(store, ROAD, 0, 3)
        self.endless(store, ROAD, 4, 2)
        # By this ring the row is not told, or not any number of times.
        store = store_of(3, [("a", 0, 1), ("b", 1, 1), ("a", 1, 2)])
        self.counted(store, ("again", AF), 0, 2, 1)
        self.counted(store, ("many", FORTH, 0, 6), 0, 2, 5)
        self.counted(store, ("then", AF, ("then", ("many", BF, 0, 4), AF)), 0, 2, 5)
        self.counted(store, ("then", ("again", AF), ("then", BF, AF)), 0, 2, 1)
        self.endless(store, ("then", AF, ("then", ("again", BF), AF)), 0, 2)
        # Gone round, it leads to a rest that can't be ended.
        way = ("or", ("then", AF, AF), ("then", ("again", FORTH), ("step", "zz", "forth")))
        self.counted(store, way, 0, 2, 1)

    def test_a_way_without_end_in_a_store_without_rings(self):
        self.counted(line_of(1, 2, 3), ("again", ("or", AF, ("again", AF))), 0, 3, 6)
        self.counted(line_of(1, 2, 3), ("again", EMPTY), 0, 0, 1)
        self.counted(line_of(1, 2, 3), ("again", ("many", EMPTY, 0, 6)), 0, 1, 0)

    def test_walks_longer_than_there_are_places(self):
        store = store_of(2, [("a", 0, 1), ("b", 1, 0)])
        self.counted(store, ("many", ("many", FORTH, 6, 6), 6, 6), 0, 0, 1)
        self.counted(store, ("many", ("many", FORTH, 0, 6), 0, 6), 0, 0, 19)
        self.counted(store, ("many", ("many", FORTH, 0, 6), 0, 6), 0, 1, 18)

    def test_no_place_ahead_of_all_else(self):
        store = small_store()
        self.endless(store, STAR, 0, 1)
        for ask in (how_many, all_walks):
            for n in FAR:
                for a, b in ((n, 0), (0, n), (n, n), (n, 3), (3, n)):
                    for way in (STAR, EMPTY, AF, ("many", ("many", ANY, 6, 6), 0, 6)):
                        with self.assertRaises(NoPlace) as caught:
                            ask(store, way, a, b)
                        self.assertIs(type(caught.exception), NoPlace)

    def test_by_trying_all(self):
        chance = random.Random(37)
        seen = []
        for count in range(700):
            store, way = random_store(chance), random_way(chance, 1 + count % 9, most=2)
            a, b = chance.choice(store.places()), chance.choice(store.places())
            walks = walks_tried(store, way, a, b, 5)
            if walks is None:
                continue
            try:
                told = all_walks(store, way, a, b)
            except Endless:
                self.endless(store, way, a, b)
                seen.append("endless")
                continue
            except TooMany:
                self.assertGreater(how_many(store, way, a, b), 200)
                continue
            self.check_walks(store, way, a, b, told)
            self.assertEqual([walk for walk in told if len(walk) <= 5], walks)
            self.counted(store, way, a, b, len(told))
            seen.append(min(len(told), 3))
        for found in ("endless", 0, 1, 2, 3):
            self.assertGreater(seen.count(found), 10, found)

    def test_no_end_just_where_long_walks_are_found(self):
        # A walk with as many legs as there are pairs of a place and a rest comes to a pair twice, so round a ring.
        chance = random.Random(38)
        seen = []
        for count in range(300):
            store, way = random_store(chance), random_way(chance, 1 + count % 7, most=2)
            a, b = chance.choice(store.places()), chance.choice(store.places())
            heads, pairs, long_one = {(a, way)}, {(a, way)}, False
            for legs in range(150):
                long_one = any(place == b and tells(rest, ()) for place, rest in heads) if legs > 60 else False
                if long_one:
                    break
                heads = {(end, rest) for place, left in heads for tie, turn, end in legs_at(store, place)
                         for rest in rests(left, store.tie(tie)[0], turn)}
                pairs |= heads
            if len(pairs) <= 60:
                seen.append(long_one)
                if long_one:
                    self.endless(store, way, a, b)
                else:
                    how_many(store, way, a, b)
        self.assertGreater(seen.count(True), 20)
        self.assertGreater(seen.count(False), 20)

    def test_in_large_stores(self):
        chance = random.Random(39)
        ties = [(chance.choice("ab"), *sorted(chance.sample(range(40), 2))) for _ in range(120)]
        store = store_of(40, ties)
        counts = [0] * 40
        counts[0] = 1
        for at in range(40):
            for kind, start, end in sorted(ties, key=lambda tie: tie[1]):
                if start == at:
                    counts[end] += counts[at]
        for b in (10, 25, 39):
            self.counted(store, ROAD, 0, b, counts[b])
            self.counted(store, ("again", ("or", ("step", "a", "forth"), BF)), 0, b, counts[b])
        self.endless(store, STAR, 0, 39)
        inner = ("then", ANY, ("then", ("step", "a", "either"), ("then", ANY, ("then", ANY, ANY))))
        self.assertGreater(how_many(store, ("many", ("many", inner, 0, 6), 6, 6), 0, 39), 10 ** 30)


class AllWalks(CountingCase):
    def test_rising(self):
        store = store_of(3, [("a", 0, 1), ("a", 1, 2), ("a", 0, 1), ("a", 0, 2), ("b", 2, 1)])
        for way in (("many", ANY, 0, 2), ("many", ANY, 0, 3)):
            walks = all_walks(store, way, 0, 1)
            self.assertEqual(walks, walks_tried(store, way, 0, 1, 3))
            self.check_walks(store, way, 0, 1, walks)
        self.assertTrue(same_kinds(all_walks(store, ("many", ANY, 0, 2), 0, 1), [
            ((0, "forth"),), ((2, "forth"),), ((3, "forth"), (1, "back")), ((3, "forth"), (4, "forth"))]))

    def test_just_as_many_as_are_told_and_one_more(self):
        for many in ((200,), (5, 5, 8), (2, 2, 2, 5, 5), (1,) * 20 + (200,)):
            self.counted(line_of(*many), ROAD, 0, len(many), 200)
        for many in ((201,), (3, 67), (67, 3), (1,) * 20 + (201,)):
            self.counted(line_of(*many), ROAD, 0, len(many), 201)
        # Walks of several lengths, the shorter ones counted with the longer ones.
        for loops, number in ((199, 200), (200, 201)):
            store = store_of(2, [("a", 0, 1)] + [("b", 0, 0)] * loops)
            self.counted(store, ("then", ("many", BF, 0, 1), AF), 0, 1, number)
        store = store_of(1, [("a", 0, 0)] * 14)
        self.counted(store, ("many", AF, 0, 2), 0, 0, 1 + 14 + 196)
        store.take_tie(0)
        self.counted(store, ("many", AF, 0, 2), 0, 0, 1 + 13 + 169)

    def test_endless_ahead_of_too_many(self):
        store = line_of(201)
        store.add_tie("b", 1, 1, {})
        self.too_many(store, ("again", AF), 0, 1)
        self.endless(store, ROAD, 0, 1)
        store = line_of(*[4] * 20)
        store.add_tie("b", 20, 19, {})
        self.endless(store, ROAD, 0, 20)
        self.too_many(store, ("again", AF), 0, 20)

    def test_told_things_are_the_asker_s_own(self):
        store = small_store()
        for way, a, b in ((("many", ANY, 0, 3), 0, 3), (EMPTY, 1, 1), (AF, 1, 0)):
            check_own(self, store, lambda: all_walks(store, way, a, b))
            check_own(self, store, lambda: how_many(store, way, a, b))
        told = all_walks(store, ANY, 0, 1)
        store.take_tie(0)
        self.assertEqual(told, [((0, "forth"),), ((2, "forth"),), ((3, "back"),)])
        self.assertEqual(all_walks(store, ANY, 0, 1), told[1:])


class Loops(CountingCase):
    def test_a_tie_from_a_place_to_itself(self):
        store = small_store()
        head, ring, tail = self.endless(store, ("again", AF), 3, 3)
        self.assertEqual(set(ring), {(5, "forth")})

    def test_there_and_back(self):
        store = line_of(1)
        loop = self.endless(store, STAR, 0, 1)
        self.assertEqual(set(steps_of(store, loop[1])), {("a", "forth"), ("a", "back")})
        self.endless(store, STAR, 0, 0)

    def test_a_ring_gone_only_several_times_at_once(self):
        store = store_of(3, [("a", 0, 1), ("a", 1, 2), ("a", 2, 0)])
        for many in (1, 2, 3, 4, 5):
            way = ("again", ("many", AF, many, many))
            for b in (0, 1, 2):
                if many % 3 or b == 0:
                    head, ring, tail = self.endless(store, way, 0, b)
                    self.assertEqual((len(ring) % 3, len(ring) % many), (0, 0))
                else:
                    self.counted(store, way, 0, b, 0)

    def test_a_head_and_a_tail(self):
        store = line_of(1, 1, 1, 1)
        store.add_tie("b", 2, 2, {})
        head, ring, tail = self.endless(store, ROAD, 0, 4)
        self.assertEqual(set(ring), {(4, "forth")})
        self.assertEqual(head[:2] + tail[-2:], tuple((n, "forth") for n in range(4)))

    def test_the_same_is_told_again_and_nothing_is_changed(self):
        store = small_store()
        rows = rows_of(store)
        self.assertEqual(self.endless(store, STAR, 0, 3), self.endless(store, STAR, 0, 3))
        self.assertTrue(same_kinds(rows_of(store), rows))


if __name__ == "__main__":
    unittest.main()
