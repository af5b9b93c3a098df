"""Points 9 and 10: legs, walks, what is reached, fences."""

import random
import unittest

from making import odd_things, random_way, same_kinds
from webstore.errors import NoPlace
from webstore.store import Store, copied, rows_of
from webstore.walks import fence, is_walk, legs_at, reached
from webstore.ways import is_way, least_steps, rests, tells

A, B = ("step", "a", "forth"), ("step", "b", "forth")
BACK = ("step", "a", "back")
ANY = ("step", None, "either")
EMPTY = ("empty",)
FAR = (2, 5, -1, -10 ** 12, 999, 10 ** 12 - 1)


def small_store():
    """Places 0, 1, 3, 4 (2 is gone): two ties alike from 0 to 1, one back, one on to 3, a ring at 3; 4 lies alone."""
    store = Store()
    for _ in range(5):
        store.add_place("p", {})
    for kind, start, end in (("a", 0, 1), ("b", 2, 2), ("a", 0, 1), ("b", 1, 0), ("b", 1, 3), ("a", 3, 3)):
        store.add_tie(kind, start, end, {})
    store.take_tie(1)
    store.take_place(2)
    return store


def random_store(chance, most=6):
    """A store with some places and ties, with holes in their numbers."""
    store = Store()
    for _ in range(chance.randrange(2, most)):
        store.add_place("p", {})
    for _ in range(chance.randrange(2 * most)):
        places = store.places()
        store.add_tie(chance.choice("aab"), chance.choice(places), chance.choice(places), {})
        if chance.random() < 0.15:
            store.take_tie(chance.choice(store.ties()))
        if chance.random() < 0.15:
            free = [n for n in store.places() if not store.out_of(n) and not store.into(n)]
            if free and len(places) > 2:
                store.take_place(chance.choice(free))
    return store


def goes(store, a, walk):
    """Where a row of legs leads from a, and its steps; None where it doesn't lead on."""
    here, steps = a, []
    for number, turn in walk:
        kind, *ends = store.tie(number)[:3]
        begin, end = ends if turn == "forth" else ends[::-1]
        if begin != here:
            return None
        here = end
        steps.append((kind, turn))
    return here, steps


def closed(store, way, a, b, pairs):
    """Whether pairs are a fence, by the words of the document."""
    if (a, way) not in pairs:
        return False
    for place, rest in pairs:
        if place not in store.places() or not is_way(rest) or (place == b and tells(rest, ())):
            return False
        for number, turn, end in legs_at(store, place):
            for further in rests(rest, store.tie(number)[0], turn):
                if (end, further) not in pairs:
                    return False
    return True


class WalksCase(unittest.TestCase):
    def same(self, told, wanted):
        self.assertTrue(same_kinds(told, wanted), (told, wanted))


class Legs(WalksCase):
    def test_all_legs(self):
        store = small_store()
        self.same(legs_at(store, 0), [(0, "forth", 1), (2, "forth", 1), (3, "back", 1)])
        self.same(legs_at(store, 1), [(0, "back", 0), (2, "back", 0), (3, "forth", 0), (4, "forth", 3)])
        self.same(legs_at(store, 4), [])

    def test_a_tie_to_itself_has_both_legs(self):
        store = small_store()
        self.same(legs_at(store, 3), [(4, "back", 1), (5, "back", 3), (5, "forth", 3)])

    def test_rising_by_numbers_beyond_ten(self):
        store = Store()
        store.add_place("p", {})
        store.add_place("p", {})
        for n in range(12):
            store.add_tie("a", n % 2, 1 - n % 2, {})
        self.assertEqual([leg[0] for leg in legs_at(store, 0)], list(range(12)))

    def test_no_place(self):
        for n in FAR:
            with self.assertRaises(NoPlace):
                legs_at(small_store(), n)

    def test_told_lists_are_the_asker_s_own(self):
        store = small_store()
        first, again = legs_at(store, 0), legs_at(store, 0)
        self.assertIsNot(first, again)
        first.clear()
        self.same(legs_at(store, 0), again)
        store.take_tie(0)
        self.same(again, [(0, "forth", 1), (2, "forth", 1), (3, "back", 1)])
        self.same(legs_at(store, 0), again[1:])


class IsWalk(WalksCase):
    def check(self, way, a, b, walk, wanted):
        store = small_store()
        self.assertIs(is_walk(store, way, a, b, walk), wanted, (way, a, b, walk))
        self.assertIs(is_walk(store, way, a, b, list(walk)), wanted, (way, a, b, walk))

    def test_walks(self):
        star = ("again", ANY)
        for walk, end, way in ((((0, "forth"),), 1, A), (((2, "forth"),), 1, A),
                               (((3, "back"),), 1, ("step", "b", "back")),
                               (((0, "forth"), (2, "back"), (3, "back"), (4, "forth")), 3, star),
                               (((2, "forth"), (4, "forth"), (5, "forth"), (5, "back"), (5, "back")), 3, star),
                               (((0, "forth"), (0, "back")), 0, ("then", A, BACK))):
            self.check(way, 0, end, walk, True)
            self.check(star, 0, end, walk, True)
            self.check(("then", B, B), 0, end, walk, False)

    def test_begins_or_ends_elsewhere(self):
        star = ("again", ANY)
        walk = ((0, "forth"), (4, "forth"))
        for a in (0, 1, 3, 4):
            for b in (0, 1, 3, 4):
                self.check(star, a, b, walk, (a, b) == (0, 3))
        self.check(star, 1, 3, ((3, "back"), (4, "forth")), False)

    def test_does_not_lead_on(self):
        star = ("again", ANY)
        for walk in (((0, "forth"), (0, "forth")), ((0, "forth"), (5, "forth")), ((4, "forth"), (0, "forth"))):
            for b in (0, 1, 3, 4):
                self.check(star, 0, b, walk, False)

    def test_of_the_wrong_way(self):
        self.check(B, 0, 1, ((0, "forth"),), False)
        self.check(BACK, 0, 1, ((0, "forth"),), False)
        self.check(EMPTY, 0, 1, ((0, "forth"),), False)
        self.check(("many", A, 2, 2), 0, 1, ((0, "forth"),), False)

    def test_empty_walk(self):
        for place in (0, 1, 3, 4):
            self.check(EMPTY, place, place, (), True)
            self.check(("again", A), place, place, (), True)
            self.check(A, place, place, (), False)
        self.check(EMPTY, 0, 1, (), False)
        self.check(("again", ANY), 3, 0, (), False)

    def test_ties_that_are_none(self):
        star = ("again", ANY)
        for tie in (1, 6, -1, 999, 10 ** 12, -10 ** 12):
            for turn in ("forth", "back"):
                self.check(star, 0, 1, ((tie, turn),), False)
                self.check(star, 0, 1, ((0, "forth"), (tie, turn)), False)

    def test_things_that_are_no_walks(self):
        store = small_store()
        star = ("again", ANY)
        leg = (0, "forth")
        for thing in (None, True, False, 0, 1, "", "ab", leg, ([0, "forth"],), [[0, "forth"]], (leg, [4, "forth"]),
                      ((True, "forth"),), ((False, "forth"),), ((0, "either"),), ((0, "Forth"),), ((0, None),),
                      ((0,),), ((0, "forth", 1),), (("forth", 0),), ((None, "forth"),), (("0", "forth"),),
                      (([], "forth"),), ((0, ["forth"]),), ((0, ("forth",)),), (((0,), "forth"),), (leg, None),
                      (leg, ()), (leg, []), ((),), ([],), (0,), ("forth",), ((leg,),), [[leg]]):
            for a, b in ((0, 0), (0, 1), (1, 0), (1, 1)):
                self.assertIs(is_walk(store, star, a, b, thing), False, repr(thing))

    def test_of_any_thing_true_or_false(self):
        store = small_store()
        for thing in odd_things():
            for walk in (thing, (thing,), [(0, "forth"), thing], ((0, thing),), ((thing, "forth"),)):
                wanted = walk in ((), [])
                self.assertIs(is_walk(store, ("many", EMPTY, 0, 3), 0, 0, walk), wanted, repr(walk))
        self.assertIs(is_walk(store, ("again", ANY), 0, 0, [(0, "forth")] * 100), False)

    def test_no_place_ahead_of_all_else(self):
        store = small_store()
        for n in FAR:
            for a, b in ((n, 0), (0, n), (n, n)):
                for walk in ((), ((0, "forth"),), None, "ab", ((n, "forth"),), [[]]):
                    with self.assertRaises(NoPlace):
                        is_walk(store, ("again", ANY), a, b, walk)

    def test_long_walks(self):
        store = small_store()
        walk = [(0, "forth"), (3, "forth")] * 20
        way = ("again", ("then", A, B))
        self.assertIs(is_walk(store, way, 0, 0, walk), True)
        self.assertIs(is_walk(store, way, 0, 0, walk + walk), True)
        self.assertIs(is_walk(store, way, 0, 1, walk[:-1]), False)
        walk[20] = (2, "forth")
        self.assertIs(is_walk(store, way, 0, 0, walk), True)
        walk[21] = (0, "back")
        self.assertIs(is_walk(store, way, 0, 0, walk), False)

    def test_what_is_handed_in_stays(self):
        store = small_store()
        rows, walk = rows_of(store), [(0, "forth"), (4, "forth")]
        is_walk(store, ("again", ANY), 0, 3, walk)
        self.assertEqual(walk, [(0, "forth"), (4, "forth")])
        self.same(rows_of(store), rows)


class Reached(WalksCase):
    def test_plain_ones(self):
        store = small_store()
        star = ("again", ANY)
        for way, a, wanted in ((EMPTY, 0, [0]), (A, 0, [1]), (B, 0, []), (BACK, 0, []), (BACK, 1, [0]), (A, 3, [3]),
                               (star, 0, [0, 1, 3]), (star, 3, [0, 1, 3]), (star, 4, [4]), (A, 4, []),
                               (("again", ("step", None, "forth")), 3, [3]), (("then", A, B), 0, [0, 3]),
                               (("many", A, 0, 6), 0, [0, 1]), (("then", A, A), 0, []), (("or", A, EMPTY), 0, [0, 1]),
                               (("many", ANY, 2, 2), 0, [0, 3]), (("many", ANY, 3, 3), 4, [])):
            self.same(reached(store, way, a), wanted)

    def test_behind_ties_put_in_and_taken(self):
        store = small_store()
        way = ("again", ("step", None, "forth"))
        self.same(reached(store, way, 4), [4])
        tie = store.add_tie("c", 4, 0, {})
        self.same(reached(store, way, 4), [0, 1, 3, 4])
        store.take_tie(tie)
        self.same(reached(store, way, 4), [4])
        new = store.add_place("p", {})
        store.add_tie("c", 4, new, {})
        self.same(reached(store, way, 4), [4, 5])

    def test_no_place(self):
        for n in FAR:
            with self.assertRaises(NoPlace):
                reached(small_store(), EMPTY, n)

    def test_told_lists_are_the_asker_s_own(self):
        store = small_store()
        rows = rows_of(store)
        first, again = reached(store, ("again", ANY), 0), reached(store, ("again", ANY), 0)
        self.assertIsNot(first, again)
        first.reverse()
        first.append(7)
        self.same(again, [0, 1, 3])
        self.same(reached(store, ("again", ANY), 0), again)
        self.same(rows_of(store), rows)

    def test_along_a_long_row(self):
        store = Store()
        for _ in range(40):
            store.add_place("p", {})
        for n in range(39):
            store.add_tie("ab"[n % 2], n, n + 1, {})
        self.same(reached(store, ("again", ("then", A, B)), 0), list(range(0, 40, 2)))
        self.same(reached(store, ("many", ("many", ("step", None, "forth"), 6, 6), 6, 6), 3), [39])
        self.same(reached(store, ("many", ("many", ("step", None, "forth"), 6, 6), 6, 6), 4), [])

    def test_all_short_walks_lead_to_what_is_reached(self):
        chance = random.Random(21)
        for _ in range(150):
            store, way = random_store(chance), random_way(chance, chance.randrange(1, 9))
            a = chance.choice(store.places())
            walks, ends = [((), a)], set()
            for _ in range(4):
                ends |= {b for walk, b in walks if tells(way, goes(store, a, walk)[1])}
                walks = [(walk + ((tie, turn),), end) for walk, b in walks[:300] for tie, turn, end in legs_at(store, b)]
            self.assertLessEqual(ends, set(reached(store, way, a)), (way, rows_of(store)))


class Fence(WalksCase):
    def check(self, store, way, a, b):
        """What fence tells is as the document says, and as reached tells; the word is told."""
        told = fence(store, way, a, b)
        self.assertIs(type(told), tuple)
        word, paper = told
        if word == "walk":
            self.assertIs(type(paper), tuple)
            self.assertTrue(all(type(leg) is tuple and len(leg) == 2 for leg in paper))
            end, steps = goes(store, a, paper)
            self.assertEqual(end, b)
            self.assertIs(tells(way, steps), True)
            self.assertIs(is_walk(store, way, a, b, paper), True)
        else:
            self.assertEqual(word, "fence")
            self.assertIs(type(paper), list)
            self.assertTrue(all(type(pair) is tuple and len(pair) == 2 for pair in paper))
            self.assertTrue(closed(store, way, a, b, paper), (way, a, b))
        self.assertEqual(b in reached(store, way, a), word == "walk")
        return word

    def test_plain_ones(self):
        store = small_store()
        star = ("again", ANY)
        for way, a, b, word in ((EMPTY, 0, 0, "walk"), (EMPTY, 0, 1, "fence"), (A, 0, 1, "walk"), (A, 1, 0, "fence"),
                                (star, 0, 3, "walk"), (star, 0, 4, "fence"), (star, 4, 4, "walk"), (A, 4, 4, "fence"),
                                (("then", ("many", A, 2, 2), B), 0, 3, "fence"), (("many", A, 2, 6), 3, 3, "walk")):
            self.assertEqual(self.check(store, way, a, b), word, (way, a, b))
        self.assertEqual(fence(store, EMPTY, 0, 0), ("walk", ()))
        self.same(fence(store, EMPTY, 0, 1), ("fence", [(0, EMPTY)]))

    def test_by_chance(self):
        chance = random.Random(22)
        words = []
        for count in range(400):
            store, way = random_store(chance, 8), random_way(chance, 1 + count % 12)
            words.append(self.check(store, way, chance.choice(store.places()), chance.choice(store.places())))
        self.assertGreater(words.count("walk"), 50)
        self.assertGreater(words.count("fence"), 50)

    def test_in_a_large_store(self):
        chance = random.Random(23)
        store = Store()
        for _ in range(40):
            store.add_place("p", {})
        for _ in range(120):
            store.add_tie(chance.choice("aab"), chance.randrange(38), chance.randrange(38), {})
        inner = ("then", ANY, ("then", ("step", "a", "either"), ("then", ANY, ("then", ANY, ANY))))
        way = ("many", ("many", inner, 0, 6), 6, 6)
        word, pairs = fence(store, way, 0, 39)
        self.assertEqual(word, "fence")
        self.assertIn((0, way), pairs)
        self.assertEqual(self.check(store, way, 0, 0), "walk")
        self.assertEqual(self.check(store, ("then", A, ("then", B, A)), 0, 39), "fence")

    def test_no_place_ahead_of_all_else(self):
        store = small_store()
        for n in FAR:
            for a, b in ((n, 0), (0, n), (n, n)):
                with self.assertRaises(NoPlace):
                    fence(store, ("again", ANY), a, b)

    def test_told_lists_are_the_asker_s_own(self):
        store = small_store()
        rows = rows_of(store)
        first, again = fence(store, ("again", ANY), 0, 4), fence(store, ("again", ANY), 0, 4)
        self.same(first, again)
        self.assertIsNot(first[1], again[1])
        first[1].clear()
        self.same(fence(store, ("again", ANY), 0, 4), again)
        twin = copied(store)
        store.take_tie(0)
        store.take_tie(2)
        self.same(fence(twin, ("again", ANY), 0, 4), again)
        self.same(rows_of(twin), rows)

    def test_told_ways_may_be_handed_in_again(self):
        store = small_store()
        way = ("then", ("many", ("many", ("then", A, B), 0, 6), 2, 6), ("step", "zz", "forth"))
        word, pairs = fence(store, way, 0, 4)
        self.assertEqual(word, "fence")
        for place, rest in pairs:
            self.assertIs(is_way(rest), True)
            self.assertEqual(self.check(store, rest, place, 4), "fence")
            self.assertGreaterEqual(least_steps(rest), 1 if place == 4 else 0)


if __name__ == "__main__":
    unittest.main()
