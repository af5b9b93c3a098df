"""Point 17: what a plan is, and how it is played."""

import itertools
import random
import unittest

from laying import SPOT, lone_store, random_field_store, random_pattern, rows_tried, town_store
from making import odd_things, same_kinds, spoiled
from planning import all_plans, judged, loads_tried
from trying import AB, AF, BF, EMPTY, FORTH, ROAD, STAR, check_own, line_of, store_of
from webstore.asking import ask
from webstore.errors import NoEnd, NoPlan, TooMany
from webstore.patterns import is_pattern
from webstore.plans import is_plan, played
from webstore.store import rows_of

# Spots 0 to 2; bow 0 from 0 to 1, bow 1 from 2 to 1, bow 2 from 0 to itself, bow 3 from 1 to 0.
MESH = ((SPOT,) * 3, ((0, 1, "all", AF), (2, 1, "short", AF), (0, 0, "any", EMPTY), (1, 0, "plain", STAR)), ())
MESH_PLANS = (
    [("lay", 0), ("meet", 2), ("forth", 0), ("back", 1), ("meet", 3)],
    [("lay", 1), ("lay", 0), ("lay", 2), ("meet", 0), ("meet", 1), ("meet", 2), ("meet", 3)],
    [("lay", 2), ("forth", 1), ("forth", 3), ("meet", 0), ("meet", 2)],
    [("lay", 2), ("forth", 1), ("back", 0), ("meet", 2), ("meet", 3)],
    [("lay", 0), ("back", 3), ("meet", 0), ("meet", 2), ("lay", 2), ("meet", 1)],
)
ONE = ((SPOT,), (), ())


def meet_all(pattern):
    """The plan that lays all spots and then looks at all bows."""
    return [("lay", i) for i in range(len(pattern[0]))] + [("meet", k) for k in range(len(pattern[1]))]


class IsPlan(unittest.TestCase):
    def told(self, pattern, thing, wanted):
        self.assertIs(is_plan(pattern, thing), wanted, repr(thing))

    def test_right_ones(self):
        self.assertIs(is_pattern(MESH), True)
        for plan in MESH_PLANS:
            self.told(MESH, plan, True)
            self.told(MESH, tuple(plan), True)
        self.told(ONE, [("lay", 0)], True)
        self.told(ONE, (("lay", 0),), True)

    def test_a_move_with_a_part_too_few_or_too_many(self):
        for plan in MESH_PLANS:
            for at, move in enumerate(plan):
                for other in (move[:1], move[1:], (), move + (0,), move + (None,), move + move, (move,)):
                    self.told(MESH, plan[:at] + [other] + plan[at + 1:], False)

    def test_an_unknown_word(self):
        for plan in MESH_PLANS:
            for at, move in enumerate(plan):
                for word in ("", "Lay", "LAY", "laid", "step", "either", "a", None, 0, True, (), [], ("lay",), ["lay"]):
                    self.told(MESH, plan[:at] + [(word, move[1])] + plan[at + 1:], False)

    def test_a_list_for_a_tuple(self):
        for plan in MESH_PLANS:
            for at, move in enumerate(plan):
                self.told(MESH, plan[:at] + [list(move)] + plan[at + 1:], False)
                self.told(MESH, tuple(plan[:at] + [list(move)] + plan[at + 1:]), False)

    def test_numbers_that_are_none(self):
        for plan in MESH_PLANS:
            for at, (word, number) in enumerate(plan):
                far = 3 if word == "lay" else 4
                for other in (-1, -2, -3, -4, far, far + 1, 10 ** 12, True, False, None, "0", (), [], (number,)):
                    self.told(MESH, plan[:at] + [(word, other)] + plan[at + 1:], False)
        # A spot's number may be one above the bows', and the other way about.
        self.told(((SPOT,) * 2, (), ()), [("lay", 1), ("lay", 0)], True)
        self.told(((SPOT,), ((0, 0, "any", AF),) * 2, ()), [("lay", 0), ("meet", 1), ("meet", 0)], True)
        self.told(((SPOT,), ((0, 0, "any", AF),) * 2, ()), [("lay", 1), ("meet", 1), ("meet", 0)], False)
        self.told(((SPOT,) * 2, ((0, 1, "any", AF),), ()), [("lay", 0), ("forth", 1)], False)

    def test_true_and_false_for_numbers(self):
        pattern = ((SPOT,) * 2, ((0, 1, "any", AF),) * 2, ())
        plan = [("lay", 0), ("forth", 1), ("meet", 0)]
        self.told(pattern, plan, True)
        for at, other in ((0, ("lay", False)), (1, ("forth", True)), (2, ("meet", False))):
            self.told(pattern, plan[:at] + [other] + plan[at + 1:], False)

    def test_a_spot_laid_twice(self):
        two = ((SPOT,) * 2, ((0, 1, "any", AF), (1, 0, "any", AF)), ())
        for plan in ([("lay", 0), ("lay", 0), ("forth", 0), ("meet", 1)], [("lay", 0), ("forth", 0), ("lay", 1), ("meet", 1)],
                     [("lay", 0), ("forth", 0), ("lay", 0), ("meet", 1)], [("lay", 0), ("forth", 0), ("back", 1)],
                     [("lay", 0), ("lay", 1), ("forth", 0), ("meet", 1)], [("lay", 0), ("lay", 1), ("meet", 0), ("back", 1)],
                     [("lay", 1), ("back", 0), ("forth", 1)], [("lay", 0), ("lay", 1), ("lay", 0), ("meet", 0), ("meet", 1)]):
            self.told(two, plan, False)
        self.told(two, [("lay", 0), ("forth", 0), ("meet", 1)], True)
        self.told(two, [("lay", 0), ("back", 1), ("meet", 0)], True)
        self.told(ONE, [("lay", 0), ("lay", 0)], False)

    def test_a_bow_come_twice(self):
        two = ((SPOT,) * 2, ((0, 1, "any", AF),), ())
        self.told(two, [("lay", 0), ("forth", 0)], True)
        for plan in ([("lay", 0), ("forth", 0), ("meet", 0)], [("lay", 0), ("forth", 0), ("forth", 0)],
                     [("lay", 0), ("lay", 1), ("meet", 0), ("meet", 0)], [("lay", 1), ("back", 0), ("meet", 0)],
                     [("lay", 1), ("back", 0), ("forth", 0)]):
            self.told(two, plan, False)
        three = ((SPOT,) * 2, ((0, 1, "any", AF), (0, 1, "any", AF)), ())
        self.told(three, [("lay", 0), ("forth", 0), ("meet", 0)], False)
        self.told(three, [("lay", 0), ("forth", 0), ("meet", 1)], True)

    def test_one_left_out(self):
        for plan in MESH_PLANS:
            for at in range(len(plan)):
                self.told(MESH, plan[:at] + plan[at + 1:], False)
                self.told(MESH, plan[:at], False)
        for plan in ([], ()):
            self.told(ONE, plan, False)
            self.told(MESH, plan, False)
        self.told(((SPOT,) * 2, (), ()), [("lay", 0)], False)
        self.told(((SPOT,) * 2, (), ()), [("lay", 1)], False)

    def test_from_a_spot_that_is_not_yet_laid_or_to_one_that_is(self):
        two = ((SPOT,) * 2, ((0, 1, "any", AF),), ())
        for plan in ([("forth", 0), ("lay", 0)], [("lay", 1), ("forth", 0)], [("back", 0), ("lay", 1)],
                     [("lay", 0), ("back", 0)], [("lay", 0), ("lay", 1), ("forth", 0)], [("lay", 0), ("lay", 1), ("back", 0)],
                     [("forth", 0)], [("back", 0)]):
            self.told(two, plan, False)
        for plan in ([("lay", 0), ("forth", 0)], [("lay", 1), ("back", 0)]):
            self.told(two, plan, True)

    def test_meet_ahead_of_one_of_its_spots(self):
        two = ((SPOT,) * 2, ((0, 1, "any", AF),), ())
        for plan in itertools.permutations([("lay", 0), ("lay", 1), ("meet", 0)]):
            self.told(two, plan, plan[2] == ("meet", 0))

    def test_a_bow_from_a_spot_to_itself_comes_by_meet_alone(self):
        loop = ((SPOT,), ((0, 0, "any", AF),), ())
        for plan, wanted in (([("lay", 0), ("meet", 0)], True), ([("lay", 0), ("forth", 0)], False),
                             ([("lay", 0), ("back", 0)], False), ([("forth", 0)], False), ([("back", 0)], False),
                             ([("meet", 0), ("lay", 0)], False), ([("lay", 0)], False), ([("meet", 0)], False)):
            self.told(loop, plan, wanted)

    def test_all_rows_of_moves(self):
        for bows in (((0, 1),), ((1, 0), (0, 0)), ((0, 1), (0, 1))):
            pattern = ((SPOT,) * 2, tuple((i, j, "any", AF) for i, j in bows), ())
            moves = [(word, n) for word in ("lay", "forth", "back", "meet") for n in range(2)]
            seen = []
            for many in range(5):
                for plan in itertools.product(moves, repeat=many):
                    seen.append(judged(pattern, plan))
                    self.told(pattern, plan, seen[-1])
            self.assertEqual(seen.count(True), len(all_plans(pattern)))
            self.assertGreater(seen.count(True), 3)

    def test_spoiled_ones(self):
        seen = []
        for plan in MESH_PLANS:
            for other in spoiled(tuple(plan)):
                seen.append(judged(MESH, other))
                self.told(MESH, other, seen[-1])
        self.assertGreater(seen.count(False), 500)

    def test_of_any_thing_true_or_false(self):
        plan = MESH_PLANS[0]
        for thing in odd_things():
            self.told(ONE, thing, False)
            for other in (thing, [thing], (thing,), plan + [thing], [thing] + plan, plan[:2] + [thing] + plan[3:],
                          plan[:2] + [("forth", thing)] + plan[3:], plan[:2] + [(thing, 0)] + plan[3:]):
                self.told(MESH, other, judged(MESH, other))

    def test_what_is_handed_in_stays(self):
        plan = [list(move) for move in MESH_PLANS[0]]
        self.told(MESH, plan, False)
        self.assertEqual(plan, [list(move) for move in MESH_PLANS[0]])
        plan = list(MESH_PLANS[0])
        self.told(MESH, plan, True)
        self.assertEqual(plan, MESH_PLANS[0])


class PlayedCase(unittest.TestCase):
    def told(self, store, pattern, plan, loads):
        self.assertIs(is_pattern(pattern), True)
        self.assertIs(is_plan(pattern, plan), True)
        for make in (list, tuple):
            told = played(store, pattern, make(plan))
            self.assertTrue(same_kinds(told, (ask(store, pattern), loads)), (told, loads))

    def refused(self, store, pattern, plan, error):
        with self.assertRaises(error) as caught:
            played(store, pattern, plan)
        self.assertIs(type(caught.exception), error)
        return caught.exception


class Loads(PlayedCase):
    def test_each_kind_of_move(self):
        store = town_store()
        two = ((SPOT,) * 2, ((0, 1, "all", AF),), ())
        self.told(store, two, [("lay", 0), ("forth", 0)], [5, 3])
        self.told(store, two, [("lay", 1), ("back", 0)], [5, 3])
        self.told(store, two, [("lay", 0), ("lay", 1), ("meet", 0)], [5, 25, 3])
        self.told(store, two, [("lay", 1), ("lay", 0), ("meet", 0)], [5, 25, 3])
        self.told(store, ONE, [("lay", 0)], [5])

    def test_rows_count_and_not_walks(self):
        store = line_of(3, 2)
        pattern = ((SPOT,) * 2, ((0, 1, "all", ("then", AF, AF)),), ())
        self.assertEqual(played(store, pattern, [("lay", 0), ("forth", 0)]), ([((0, 2), 6)], [3, 1]))

    def test_spots(self):
        store = town_store()
        spots = (("p", ("any",)), ("q", ("has", "u")), (None, ("is", "u", 1)))
        for order in itertools.permutations(range(3)):
            rooms = (3, 1, 2)
            loads = [rooms[order[0]], rooms[order[0]] * rooms[order[1]], 6]
            self.told(store, (spots, (), ()), [("lay", i) for i in order], loads)

    def test_pairs_count_as_soon_as_both_spots_are_laid(self):
        store = lone_store(4)
        pattern = ((SPOT,) * 3, (), (("unlike", 0, 1), ("under", 1, "n", 2, "n"), ("same", 0, "n", 2, "n")))
        self.told(store, pattern, [("lay", 0), ("lay", 1), ("lay", 2)], [4, 12, 6])
        self.told(store, pattern, [("lay", 1), ("lay", 2), ("lay", 0)], [4, 6, 6])
        self.told(store, pattern, [("lay", 2), ("lay", 0), ("lay", 1)], [4, 4, 6])

    def test_pairs_of_one_spot(self):
        store = town_store()
        for pair, many in ((("unlike", 0, 0), 0), (("same", 0, "u", 0, "u"), 4), (("under", 0, "u", 0, "v"), 1),
                           (("same", 0, "u", 0, "v"), 0)):
            pattern = ((SPOT,) * 2, (), (pair,))
            self.told(store, pattern, [("lay", 0), ("lay", 1)], [many, many * 5])
            self.told(store, pattern, [("lay", 1), ("lay", 0)], [5, many * 5])

    def test_bows_count_when_they_came_and_not_before(self):
        store = town_store()
        pattern = ((SPOT,) * 3, ((0, 1, "all", AF), (1, 2, "any", AF)), ())
        self.told(store, pattern, [("lay", 0), ("lay", 1), ("lay", 2), ("meet", 0), ("meet", 1)], [5, 25, 125, 15, 1])
        self.told(store, pattern, [("lay", 0), ("lay", 1), ("lay", 2), ("meet", 1), ("meet", 0)], [5, 25, 125, 15, 1])
        self.told(store, pattern, [("lay", 0), ("forth", 0), ("forth", 1)], [5, 3, 1])
        self.told(store, pattern, [("lay", 2), ("back", 1), ("back", 0)], [5, 3, 1])

    def test_a_bow_from_a_spot_to_itself(self):
        store = store_of(3, [("a", 0, 0), ("a", 1, 2), ("a", 2, 1)])
        pattern = ((SPOT,), ((0, 0, "all", AF), (0, 0, "any", ("many", AF, 2, 2))), ())
        self.told(store, pattern, [("lay", 0), ("meet", 0), ("meet", 1)], [3, 1, 1])
        self.told(store, pattern, [("lay", 0), ("meet", 1), ("meet", 0)], [3, 3, 1])

    def test_two_bows_between_the_same_spots(self):
        store = town_store()
        pattern = ((SPOT,) * 2, ((0, 1, "all", AF), (1, 0, "any", ("then", AB, ("empty",))), (0, 1, "short", FORTH)), ())
        self.told(store, pattern, [("lay", 0), ("forth", 2), ("meet", 1), ("meet", 0)], [5, 5, 3, 3])
        self.told(store, pattern, [("lay", 1), ("back", 0), ("meet", 2), ("meet", 1)], [5, 3, 3, 3])
        self.told(store, pattern, [("lay", 1), ("forth", 1), ("meet", 2), ("meet", 0)], [5, 3, 3, 3])

    def test_noughts_behind_a_move_that_leaves_nothing(self):
        store = town_store()
        pattern = ((SPOT,) * 3, ((0, 1, "any", ("step", "c", "forth")), (1, 2, "any", AF)), ())
        self.told(store, pattern, [("lay", 0), ("forth", 0), ("forth", 1)], [5, 0, 0])
        self.told(store, pattern, [("lay", 2), ("back", 1), ("back", 0)], [5, 3, 0])
        self.told(store, pattern, [("lay", 0), ("lay", 1), ("meet", 0), ("lay", 2), ("meet", 1)], [5, 25, 0, 0, 0])
        nothing = (((None, ("has", "w")), SPOT), (), ())
        self.told(store, nothing, [("lay", 0), ("lay", 1)], [0, 0])
        self.told(store, nothing, [("lay", 1), ("lay", 0)], [5, 0])
        self.told(store_of(0, []), ((SPOT,) * 2, ((0, 1, "all", AF),), ()), [("lay", 0), ("forth", 0)], [0, 0])

    def test_above_two_hundred(self):
        store = lone_store(40)
        pattern = ((SPOT,) * 5, ((0, 1, "any", FORTH),), ())
        loads = [40, 1600, 64000, 40 ** 4, 40 ** 5, 0]
        self.told(store, pattern, meet_all(pattern), loads)
        pattern = ((SPOT,) * 5, ((4, 4, "any", AF),), (("unlike", 0, 1), ("unlike", 1, 2), ("unlike", 0, 2),
                                                       ("under", 0, "n", 3, "n"), ("same", 3, "n", 4, "n")))
        # The fourth place stands behind the first one, and may be one of the other two.
        three = sum(39 * 38 * (39 - n) for n in range(40))
        self.told(store, pattern, meet_all(pattern), [40, 40 * 39, 40 * 39 * 38, three, three, 0])

    def test_many_rows_with_bows_all_round(self):
        store = line_of(*([1] * 39))
        pairs = (("unlike", 0, 2), ("unlike", 2, 4), ("unlike", 4, 1), ("unlike", 1, 3), ("unlike", 3, 0))
        bows = tuple((i, (i + 1) % 5, "any", STAR) for i in range(4)) + ((4, 0, "any", BF),)
        pattern = ((SPOT,) * 5, bows, pairs)
        answers, loads = played(store, pattern, meet_all(pattern))
        self.assertEqual(answers, [])
        # Five in a ring, each unlike the two beside it: as many as a ring of five has ways to be coloured by forty.
        ring = 39 ** 5 - 39
        self.assertEqual(loads, [40, 1600, 40 * 39 * 40, 40 * 39 * 39 * 39, ring, ring, ring, ring, ring, 0])

    def test_pairs_and_bows_together(self):
        store = line_of(1, 1, 1)
        pattern = ((SPOT,) * 2, ((0, 1, "any", STAR),), (("unlike", 0, 1),))
        self.told(store, pattern, [("lay", 0), ("forth", 0)], [4, 12])
        self.told(store, pattern, [("lay", 0), ("lay", 1), ("meet", 0)], [4, 12, 12])


class Answers(PlayedCase):
    def test_the_same_whatever_the_plan_is(self):
        store = town_store()
        pattern = ((SPOT, ("p", ("any",)), SPOT), ((0, 1, "all", ("many", AF, 0, 2)), (2, 1, "short", ("again", AB))),
                   (("unlike", 0, 2),))
        wanted = rows_tried(store, pattern)
        self.assertGreater(len(wanted), 3)
        plans = all_plans(pattern)
        self.assertGreater(len(plans), 10)
        for plan in plans:
            answers, loads = played(store, pattern, plan)
            self.assertTrue(same_kinds(answers, wanted))
            self.assertEqual(loads, loads_tried(store, pattern, plan))
            self.assertEqual(loads[-1], len(wanted))

    def test_by_chance(self):
        chance = random.Random(71)
        seen = []
        for count in range(250):
            store = random_field_store(chance)
            pattern = random_pattern(chance, chance.randrange(1, 4), chance.randrange(4), chance.randrange(3))
            if count % 3 == 0:
                pattern = (pattern[0], tuple(bow[:2] + ("all", STAR) for bow in pattern[1]), ())
            plan = chance.choice(all_plans(pattern))
            wanted = rows_tried(store, pattern)
            endless = [row for row, many in wanted if many is None]
            if endless:
                self.assertEqual(self.refused(store, pattern, plan, NoEnd).row, endless[0])
            else:
                self.assertTrue(same_kinds(played(store, pattern, plan), (wanted, loads_tried(store, pattern, plan))))
            seen.append((bool(endless), bool(wanted)))
        for found in ((True, True), (False, True), (False, False)):
            self.assertGreater(seen.count(found), 20, found)

    def test_wide_patterns_by_chance(self):
        chance = random.Random(72)
        for count in range(40):
            store = random_field_store(chance, 5)
            pattern = random_pattern(chance, 5, 5, chance.randrange(3, 6), 2)
            pattern = (pattern[0], tuple(bow[:2] + ("any", bow[3]) for bow in pattern[1]), pattern[2])
            plan = meet_all(pattern)
            loads = loads_tried(store, pattern, plan)
            if loads[-1] <= 200:
                self.assertEqual(played(store, pattern, plan)[1], loads)


class Refused(PlayedCase):
    def test_a_count_without_end_counts_as_above_nought(self):
        store = store_of(4, [("a", 0, 1), ("a", 1, 0), ("a", 2, 3)])
        pattern = ((SPOT,) * 3, ((0, 1, "all", ROAD), (0, 2, "any", BF)), ())
        self.told(store, pattern, [("lay", 0), ("forth", 0), ("forth", 1)], [4, 7, 0])
        self.told(store, pattern, [("lay", 1), ("back", 0), ("lay", 2), ("meet", 1)], [4, 7, 28, 0])

    def test_no_end_with_its_row(self):
        store = store_of(4, [("a", 2, 3), ("a", 3, 2), ("a", 0, 1)])
        pattern = ((SPOT,) * 2, ((0, 1, "all", ROAD),), ())
        for plan in all_plans(pattern):
            self.assertTrue(same_kinds(self.refused(store, pattern, plan, NoEnd).row, (2, 2)))

    def test_too_many(self):
        store = lone_store(15)
        pattern = ((SPOT,) * 2, (), ())
        for plan in all_plans(pattern):
            self.refused(store, pattern, plan, TooMany)
        pattern = ((SPOT,) * 2, (), (("under", 0, "n", 1, "n"),))
        for plan in all_plans(pattern):
            self.told(store, pattern, plan, [15, 105])

    def test_two_hundred_rows_and_one_more(self):
        store = lone_store(40)
        pattern = ((SPOT, (None, ("under", "n", 5))), (), ())
        self.told(store, pattern, [("lay", 0), ("lay", 1)], [40, 200])
        store = lone_store(67)
        pattern = ((SPOT, (None, ("under", "n", 3))), (), ())
        self.refused(store, pattern, [("lay", 0), ("lay", 1)], TooMany)

    def test_no_end_goes_ahead_of_too_many(self):
        store = store_of(20, [("a", 19, 19)])
        pattern = ((SPOT,) * 3, ((2, 2, "all", ROAD),), ())
        self.assertEqual(self.refused(store, pattern, meet_all(pattern), NoEnd).row, (0, 0, 19))

    def test_no_plan_goes_ahead_of_all(self):
        endless = store_of(2, [("a", 0, 0)])
        two = ((SPOT,) * 2, ((0, 1, "all", ROAD),), ())
        many = ((SPOT,) * 3, (), ())
        for plan in ([], [("lay", 0)], [("lay", 0), ("forth", 0), ("meet", 0)], (["lay", 0], ("forth", 0)),
                     [("lay", 1), ("forth", 0)], [("lay", True), ("forth", 0)], [("lay", 0), ("forth", -1)]):
            self.refused(endless, two, plan, NoPlan)
            self.refused(lone_store(20), many, plan, NoPlan)
            self.refused(lone_store(2), two, plan, NoPlan)
        self.refused(endless, two, [("lay", 0), ("forth", 0)], NoEnd)
        self.refused(lone_store(20), many, meet_all(many), TooMany)

    def test_a_refusal_changes_nothing(self):
        store = store_of(2, [("a", 0, 0)])
        rows = rows_of(store)
        pattern = ((SPOT,) * 2, ((0, 1, "all", ROAD),), ())
        for _ in range(2):
            self.refused(store, pattern, [("lay", 0), ("forth", 0)], NoEnd)
            self.refused(store, pattern, [("lay", 0)], NoPlan)
        self.assertTrue(same_kinds(rows_of(store), rows))


class Own(PlayedCase):
    def test_what_is_told_is_the_asker_s_own(self):
        store = town_store()
        pattern = ((SPOT,) * 2, ((0, 1, "all", AF),), ())
        plan = [("lay", 0), ("forth", 0)]
        told = check_own(self, store, lambda: played(store, pattern, plan))
        self.assertIs(type(told), tuple)
        self.assertEqual([type(part) for part in told], [list, list])
        self.assertEqual(plan, [("lay", 0), ("forth", 0)])
        kept = repr(told)
        plan.clear()
        store.take_tie(0)
        self.assertEqual(repr(told), kept)


if __name__ == "__main__":
    unittest.main()
