"""Point 17: the plan with the least load."""

import random
import unittest

from laying import SPOT, lone_store, random_field_store, random_pattern, town_store
from making import same_kinds
from planning import all_plans, loads_tried
from trying import AF, ANY, BF, EMPTY, FORTH, ROAD, STAR, check_own, line_of, store_of
from webstore.asking import ask
from webstore.bestplan import best_plan
from webstore.errors import NoEnd, TooMany
from webstore.patterns import is_pattern
from webstore.plans import is_plan, played
from webstore.store import rows_of


def best_tried(store, pattern):
    """The least load and the first plan with it, by trying all plans."""
    return min((sum(loads_tried(store, pattern, plan)), plan) for plan in all_plans(pattern))


class BestPlanCase(unittest.TestCase):
    def told(self, store, pattern, load, plan):
        self.assertIs(is_pattern(pattern), True)
        told = best_plan(store, pattern)
        self.assertTrue(same_kinds(told, (load, plan)), (told, (load, plan)))
        self.assertIs(is_plan(pattern, told[1]), True)
        self.check_played(store, pattern, told)

    def check_played(self, store, pattern, told):
        """Its plan is played with its load, or refused as ask is."""
        try:
            answers = ask(store, pattern)
        except (NoEnd, TooMany) as error:
            with self.assertRaises(type(error)):
                played(store, pattern, told[1])
            return
        got, loads = played(store, pattern, told[1])
        self.assertEqual((got, sum(loads)), (answers, told[0]))


class ByHand(BestPlanCase):
    def test_without_bows(self):
        store = town_store()
        self.told(store, ((SPOT,), (), ()), 5, [("lay", 0)])
        self.told(store, ((SPOT,) * 2, (), ()), 30, [("lay", 0), ("lay", 1)])
        # The spot with the fewest places first, and of those with as many the first one.
        spots = (SPOT, ("q", ("any",)), ("p", ("any",)), ("q", ("has", "v")))
        self.told(store, (spots, (), ()), 2 + 4 + 12 + 60, [("lay", 1), ("lay", 3), ("lay", 2), ("lay", 0)])
        self.told(store, (spots[:3], (), ()), 2 + 6 + 30, [("lay", 1), ("lay", 2), ("lay", 0)])

    def test_pairs_alone(self):
        store = lone_store(4)
        pattern = ((SPOT,) * 3, (), (("unlike", 0, 1), ("same", 1, "n", 2, "n")))
        self.told(store, pattern, 4 + 4 + 12, [("lay", 1), ("lay", 2), ("lay", 0)])
        self.told(store, ((SPOT,) * 2, (), (("unlike", 1, 1),)), 0, [("lay", 1), ("lay", 0)])

    def test_one_bow(self):
        store = town_store()
        pattern = ((SPOT,) * 2, ((0, 1, "all", AF),), ())
        self.told(store, pattern, 8, [("lay", 0), ("forth", 0)])
        self.told(store, (pattern[0], ((1, 0, "all", AF),), ()), 8, [("lay", 0), ("back", 0)])
        self.told(store, ((SPOT, ("q", ("any",))), pattern[1], ()), 2 + 1, [("lay", 1), ("back", 0)])

    def test_a_bow_from_a_spot_to_itself(self):
        store = store_of(3, [("a", 0, 0), ("a", 1, 2)])
        self.told(store, ((SPOT,), ((0, 0, "all", AF),), ()), 4, [("lay", 0), ("meet", 0)])
        self.told(store, ((SPOT,) * 2, ((1, 1, "all", AF),), ()), 3 + 1 + 3, [("lay", 1), ("meet", 0), ("lay", 0)])
        self.told(store, ((SPOT,) * 2, ((1, 1, "all", AF), (0, 1, "any", ANY)), ()), 3 + 1 + 1,
                  [("lay", 1), ("meet", 0), ("back", 1)])

    def test_two_bows_between_the_same_spots(self):
        store = town_store()
        pattern = ((SPOT,) * 2, ((0, 1, "all", FORTH), (0, 1, "all", AF)), ())
        self.told(store, pattern, 5 + 3 + 3, [("lay", 0), ("forth", 1), ("meet", 0)])
        # Alike all round: back goes ahead of forth, and the lesser bow ahead.
        pattern = ((SPOT,) * 2, ((0, 1, "all", AF), (0, 1, "all", AF), (1, 0, "all", ("step", "a", "back"))), ())
        self.told(store, pattern, 5 + 3 + 3 + 3, [("lay", 0), ("back", 2), ("meet", 0), ("meet", 1)])

    def test_a_bow_may_be_met_at_once_or_later(self):
        store = line_of(1, 1)
        pattern = ((SPOT,) * 2, ((0, 1, "any", AF), (0, 0, "any", EMPTY)), ())
        self.told(store, pattern, 3 + 2 + 2, [("lay", 0), ("forth", 0), ("meet", 1)])
        # Where nothing is left, nothing more comes to be: what stands first goes first.
        pattern = ((SPOT,) * 3, ((0, 0, "any", BF), (1, 2, "any", STAR)), ())
        self.told(store, pattern, 3, [("lay", 0), ("meet", 0), ("lay", 1), ("forth", 1)])

    def test_nothing_there(self):
        store = store_of(0, [])
        pattern = ((SPOT,) * 3, ((0, 1, "all", AF), (2, 1, "plain", AF)), ())
        self.told(store, pattern, 0, [("lay", 0), ("forth", 0), ("back", 1)])
        self.told(store, ((SPOT,) * 3, ((0, 1, "all", AF),), ()), 0, [("lay", 0), ("forth", 0), ("lay", 2)])
        nothing = ((SPOT, (None, ("has", "w"))), ((0, 1, "all", AF),), ())
        self.told(town_store(), nothing, 0, [("lay", 1), ("back", 0)])

    def test_a_count_without_end_is_not_refused(self):
        store = store_of(3, [("a", 0, 1), ("a", 1, 0), ("b", 1, 2)])
        pattern = ((SPOT,) * 2, ((0, 1, "all", ROAD),), ())
        with self.assertRaises(NoEnd):
            ask(store, pattern)
        self.told(store, pattern, 3 + 7, [("lay", 0), ("forth", 0)])

    def test_more_than_two_hundred_rows_are_not_refused(self):
        store = lone_store(40)
        pattern = ((SPOT,) * 4, (), ())
        with self.assertRaises(TooMany):
            ask(store, pattern)
        self.told(store, pattern, 40 + 40 ** 2 + 40 ** 3 + 40 ** 4, [("lay", i) for i in range(4)])
        pattern = ((SPOT,) * 4, ((0, 1, "any", STAR), (2, 3, "any", STAR)), (("unlike", 1, 2),))
        self.told(store, pattern, 40 + 40 + 40 * 39 + 40 * 39, [("lay", 0), ("forth", 0), ("lay", 2), ("forth", 1)])

    def test_a_ring_of_four_in_forty_places(self):
        ties = [("a", n, (n + 1) % 40) for n in range(40)] + [("b", n, (n * 7 + 3) % 40) for n in range(40)]
        store = store_of(40, ties)
        pattern = ((SPOT,) * 4, ((0, 1, "all", AF), (1, 2, "all", AF), (2, 3, "all", AF), (0, 3, "any", STAR)), ())
        self.told(store, pattern, 200, [("lay", 0), ("forth", 0), ("forth", 1), ("forth", 2), ("meet", 3)])


class ByChance(BestPlanCase):
    def test_few_spots(self):
        chance = random.Random(81)
        lengths, words = [], []
        for count in range(60):
            store = random_field_store(chance, 5)
            pattern = random_pattern(chance, chance.randrange(1, 4), chance.randrange(4), chance.randrange(3), 3)
            load, plan = best_tried(store, pattern)
            self.told(store, pattern, load, plan)
            lengths.append(len(plan))
            words += [word for word, _ in plan]
        self.assertGreater(len(set(lengths)), 3)
        for word in ("lay", "forth", "back", "meet"):
            self.assertGreater(words.count(word), 5)

    def test_four_spots_and_four_bows(self):
        chance = random.Random(82)
        for count in range(2):
            store = random_field_store(chance, 4)
            pattern = random_pattern(chance, 4, 3 + count, 2, 2)
            load, plan = best_tried(store, pattern)
            self.told(store, pattern, load, plan)

    def test_no_plan_has_a_lesser_load(self):
        chance = random.Random(83)
        for count in range(6):
            store = random_field_store(chance, 6)
            pattern = random_pattern(chance, 3, 2, 2, 3)
            load = best_plan(store, pattern)[0]
            for plan in all_plans(pattern):
                self.assertGreaterEqual(sum(loads_tried(store, pattern, plan)), load)


class Own(BestPlanCase):
    def test_what_is_told_is_the_asker_s_own(self):
        store = town_store()
        pattern = ((SPOT,) * 3, ((0, 1, "all", AF), (1, 2, "short", FORTH)), (("unlike", 0, 2),))
        told = check_own(self, store, lambda: best_plan(store, pattern))
        self.assertEqual([type(told), type(told[0]), type(told[1])], [tuple, int, list])
        self.assertEqual({type(move) for move in told[1]}, {tuple})
        rows = rows_of(store)
        answers, loads = played(store, pattern, told[1])
        self.assertEqual(sum(loads), told[0])
        self.assertTrue(same_kinds(rows_of(store), rows))


if __name__ == "__main__":
    unittest.main()
