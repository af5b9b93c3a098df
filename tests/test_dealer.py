"""Point 19: dealings, and rules that hold behind them; with points 1 and 2."""

import random
import unittest

from dealing import dealt_tried, random_deed, small_store, state_of
from laying import SPOT
from making import same_kinds
from trying import AF, ROAD
from webstore.dealer import Dealer
from webstore.errors import BadDeed, Broken, Taken
from webstore.rules import breach, is_rule
from webstore.store import Store, rows_of

HAS_U = ("field", "hasu", "q", "u", "number")
ALONE = ("alone", "alone", "q", "u")
ENDS = ("ends", "ends", "b", "p", "q")
MANY = ("many", "many", "q", "b", "back", 0, 1)
NEVER = ("never", "never", ((("q", ("is", "u", 13)),), (), ()))
RINGLESS = ("ringless", "ringless", ROAD)
ALL_RULES = (HAS_U, ALONE, ENDS, MANY, NEVER, RINGLESS)


class DealerCase(unittest.TestCase):
    def same(self, told, wanted):
        self.assertTrue(same_kinds(told, wanted), (told, wanted))

    def stays(self, dealer, refused):
        """What is refused changes nothing."""
        store, rules = state_of(dealer.told_store()), dealer.told_rules()
        with self.assertRaises((BadDeed, Broken, Taken)) as caught:
            refused()
        self.same(state_of(dealer.told_store()), store)
        self.same(dealer.told_rules(), rules)
        return caught.exception

    def bad_deed(self, dealer, deeds, deed, word):
        error = self.stays(dealer, lambda: dealer.deal(deeds))
        self.assertIs(type(error), BadDeed)
        self.same((error.deed, error.word), (deed, word))

    def broken(self, dealer, refused, rule, found):
        error = self.stays(dealer, refused)
        self.assertIs(type(error), Broken)
        self.same((error.rule, error.breach), (rule, found))


class OwnStore(DealerCase):
    def test_its_store_is_as_the_handed_one_is(self):
        for store in (Store(), small_store()):
            self.same(state_of(Dealer(store).told_store()), state_of(store))
            self.same(Dealer(store).told_rules(), [])

    def test_changing_the_handed_one_changes_nothing_of_it(self):
        store = small_store()
        dealer = Dealer(store)
        kept = state_of(store)
        store.add_place("q", {})
        store.take_tie(0)
        store.set_place(1, "u", None)
        self.same(state_of(dealer.told_store()), kept)

    def test_dealing_changes_nothing_of_the_handed_one(self):
        store = small_store()
        dealer = Dealer(store)
        kept = state_of(store)
        dealer.deal([("add_place", "q", {}), ("take_tie", 0), ("set_place", 1, "u", 7), ("take_place", 0)])
        self.same(state_of(store), kept)
        self.assertNotEqual(rows_of(dealer.told_store()), rows_of(store))

    def test_told_store_is_a_copy(self):
        dealer = Dealer(small_store())
        kept = state_of(small_store())
        told = dealer.told_store()
        told.add_place("q", {})
        told.take_tie(2)
        told.take_place(3)
        self.same(state_of(dealer.told_store()), kept)
        mine = dealer.told_store()
        dealer.deal([("take_tie", 2)])
        self.same(state_of(mine), kept)

    def test_two_dealers_of_one_store_are_apart(self):
        store = small_store()
        one, other = Dealer(store), Dealer(store)
        self.same(one.deal([("add_place", "q", {"u": 1})]), [4])
        one.add_rule(ALONE)
        self.same(state_of(other.told_store()), state_of(store))
        self.same(other.told_rules(), [])
        self.same(other.deal([("add_place", "q", {"u": 1}), ("add_place", "q", {"u": 1})]), [4, 5])
        another = Dealer(one.told_store())
        self.same(another.told_rules(), [])
        another.deal([("take_place", 4)])
        self.assertIn(4, one.told_store().places())

    def test_told_rules_is_a_list_of_the_asker_s_own(self):
        dealer = Dealer(Store())
        for rule in ALL_RULES:
            dealer.add_rule(rule)
        told = dealer.told_rules()
        self.assertIs(type(told), list)
        self.same(told, list(ALL_RULES))
        told.clear()
        self.same(dealer.told_rules(), list(ALL_RULES))
        mine = dealer.told_rules()
        dealer.add_rule(("alone", "another", "p", "u"))
        self.same(mine, list(ALL_RULES))

    def test_deeds_and_fields_handed_in_are_neither_changed_nor_kept(self):
        dealer = Dealer(Store())
        fields, pairs = {"v": 2, "u": 1}, [("w", "x")]
        deeds = [("add_place", "p", fields), ("add_tie", "a", -1, -1, fields), ("add_place", "p", pairs)]
        told = dealer.deal(deeds)
        self.assertEqual(deeds, [("add_place", "p", {"v": 2, "u": 1}), ("add_tie", "a", -1, -1, {"v": 2, "u": 1}),
                                 ("add_place", "p", [("w", "x")])])
        kept = state_of(dealer.told_store())
        fields["u"] = 99
        pairs.clear()
        deeds.clear()
        told.append(3)
        self.same(state_of(dealer.told_store()), kept)
        self.same(kept[0][0], ("place", 0, "p", (("u", 1), ("v", 2))))

    def test_the_same_question_is_told_the_same(self):
        dealer = Dealer(small_store())
        dealer.add_rule(HAS_U)
        for _ in range(2):
            self.same(state_of(dealer.told_store()), state_of(small_store()))
            self.same(dealer.told_rules(), [HAS_U])
        self.assertIsNot(dealer.told_rules(), dealer.told_rules())


class Deeds(DealerCase):
    def told(self, deeds, wanted, store=None):
        for make in (list, tuple):
            dealer = Dealer(store or small_store())
            told = dealer.deal(make(deeds))
            self.same(told, wanted)
            self.same(state_of(dealer.told_store()), state_of(dealt_tried(store or small_store(), deeds)[1]))
        return dealer.told_store()

    def test_no_deeds_at_all(self):
        self.told([], [])
        self.told((), [])

    def test_each_deed_by_itself(self):
        store = self.told([("add_place", "q", {"u": "x"})], [4])
        self.same(store.place(4), ("q", (("u", "x"),)))
        store = self.told([("add_tie", "b", 3, 0, (("w", 5),))], [3])
        self.same(store.tie(3), ("b", 3, 0, (("w", 5),)))
        store = self.told([("take_tie", 0)], [None])
        self.same(store.ties(), [2])
        store = self.told([("set_place", 0, "v", "z")], [None])
        self.same(store.place(0), ("p", (("u", 1), ("v", "z"))))
        store = self.told([("set_place", 1, "v", None)], [None])
        self.same(store.place(1), ("p", (("u", 2),)))
        store = self.told([("set_tie", 2, "w", 9)], [None])
        self.same(store.tie(2), ("a", 1, 3, (("w", 9),)))
        store = self.told([("set_tie", 2, "w", None)], [None])
        self.same(store.tie(2), ("a", 1, 3, ()))
        lone = Store()
        lone.add_place("p", {})
        store = self.told([("take_place", 0)], [None], lone)
        self.same(store.places(), [])

    def test_told_one_behind_the_other(self):
        self.told([("add_place", "p", {}), ("add_tie", "a", 0, 4, {}), ("set_tie", 3, "w", 1), ("take_tie", 3),
                   ("take_place", 4), ("add_place", "p", {}), ("add_tie", "a", 5, 5, {})], [4, 3, None, None, None, 5, 4])

    def test_numbers_of_what_is_made_in_this_dealing(self):
        store = self.told([("add_place", "q", {}), ("add_place", "r", {}), ("add_tie", "b", -1, -2, {}),
                           ("add_tie", "b", -2, 0, {}), ("set_place", -2, "u", 5), ("set_tie", -1, "w", 6),
                           ("set_tie", -2, "w", 7)], [4, 5, 3, 4, None, None, None])
        self.same(store.place(5), ("r", (("u", 5),)))
        self.same(store.tie(3), ("b", 4, 5, (("w", 6),)))
        self.same(store.tie(4), ("b", 5, 0, (("w", 7),)))

    def test_places_and_ties_are_counted_apart(self):
        store = self.told([("add_tie", "b", 0, 1, {}), ("add_place", "q", {}), ("add_tie", "c", -1, -1, {}),
                           ("take_tie", -1), ("set_place", -1, "u", 1), ("set_tie", -2, "u", 2)],
                          [3, 4, 4, None, None, None])
        self.same(store.ties(), [0, 2, 4])
        self.same(store.place(4), ("q", (("u", 1),)))
        self.same(store.tie(4), ("c", 4, 4, (("u", 2),)))

    def test_those_that_are_gone_again_are_counted(self):
        store = self.told([("add_place", "q", {}), ("take_place", -1), ("add_place", "r", {}), ("set_place", -2, "u", 1),
                           ("add_tie", "b", -2, -2, {}), ("take_tie", -1), ("add_tie", "c", -2, 0, {}),
                           ("set_tie", -2, "w", 3)], [4, None, 5, None, 3, None, 4, None])
        self.same(store.place(5), ("r", (("u", 1),)))
        self.same(store.tie(4), ("c", 5, 0, (("w", 3),)))

    def test_they_count_afresh_in_each_dealing(self):
        dealer = Dealer(Store())
        dealer.deal([("add_place", "p", {}), ("add_place", "p", {}), ("add_tie", "a", -1, -2, {})])
        for deed, word in ((("set_place", -1, "u", 1), "NoPlace"), (("take_tie", -1), "NoTie")):
            self.bad_deed(dealer, [deed], 0, word)
        dealer.deal([("add_place", "q", {}), ("set_place", -1, "u", 1)])
        self.same(dealer.told_store().place(2), ("q", (("u", 1),)))

    def test_a_number_by_itself_may_be_of_one_made_in_this_dealing(self):
        self.told([("add_place", "q", {}), ("set_place", 4, "u", 1), ("add_tie", "b", 4, -1, {}), ("set_tie", 3, "w", 1)],
                  [4, None, 3, None])

    def test_forty_deeds(self):
        deeds = [("add_place", "p", {"n": n}) for n in range(20)]
        deeds += [("add_tie", "a", -1 - n, -1 - (n + 1) % 20, {}) for n in range(20)]
        store = self.told(deeds, list(range(4, 24)) + list(range(3, 23)))
        self.same(store.tie(22), ("a", 23, 4, ()))

    def test_by_chance(self):
        chance = random.Random(101)
        seen = []
        for _ in range(1500):
            deeds = [random_deed(chance) for _ in range(chance.randrange(1, 7))]
            store = small_store()
            found, behind = dealt_tried(store, deeds)
            dealer = Dealer(store)
            if isinstance(found, list):
                self.same(dealer.deal(deeds), found)
                self.same(state_of(dealer.told_store()), state_of(behind))
                seen.append("done")
            else:
                self.bad_deed(dealer, deeds, found, behind)
                seen.append(behind)
        for found in ("done", "NoPlace", "NoTie", "Tied"):
            self.assertGreater(seen.count(found), 40, found)

    def test_dealings_one_behind_the_other_by_chance(self):
        chance = random.Random(102)
        for _ in range(60):
            store = small_store()
            dealer = Dealer(store)
            for _ in range(12):
                deeds = [random_deed(chance) for _ in range(chance.randrange(4))]
                found, behind = dealt_tried(store, deeds)
                if isinstance(found, list):
                    store = behind
                    self.same(dealer.deal(deeds), found)
                else:
                    self.bad_deed(dealer, deeds, found, behind)
                self.same(state_of(dealer.told_store()), state_of(store))


class Refused(DealerCase):
    def test_each_refusal_of_each_deed(self):
        for deed, word in ((("add_tie", "a", 2, 0, {}), "NoPlace"), (("add_tie", "a", 0, 4, {}), "NoPlace"),
                           (("add_tie", "a", 99, 99, {}), "NoPlace"), (("take_place", 2), "NoPlace"),
                           (("take_place", 4), "NoPlace"), (("take_place", 0), "Tied"), (("take_place", 3), "Tied"),
                           (("take_tie", 1), "NoTie"), (("take_tie", 3), "NoTie"), (("set_place", 2, "u", 1), "NoPlace"),
                           (("set_place", 99, "u", None), "NoPlace"), (("set_tie", 1, "u", 1), "NoTie"),
                           (("set_tie", 3, "u", None), "NoTie")):
            self.bad_deed(Dealer(small_store()), [deed], 0, word)

    def test_numbers_of_ones_that_are_not_made_yet(self):
        for deed, word in ((("add_tie", "a", -1, 0, {}), "NoPlace"), (("add_tie", "a", 0, -1, {}), "NoPlace"),
                           (("take_place", -1), "NoPlace"), (("set_place", -1, "u", 1), "NoPlace"),
                           (("take_tie", -1), "NoTie"), (("set_tie", -1, "u", 1), "NoTie"), (("take_tie", -5), "NoTie"),
                           (("take_place", -10 ** 12), "NoPlace")):
            self.bad_deed(Dealer(small_store()), [deed, ("add_place", "p", {}), ("add_tie", "a", 0, 0, {})], 0, word)
        made = [("add_place", "p", {}), ("add_tie", "a", -1, -1, {})]
        for deed, word in ((("add_tie", "a", -1, -2, {}), "NoPlace"), (("set_place", -2, "u", 1), "NoPlace"),
                           (("set_tie", -2, "u", 1), "NoTie"), (("take_tie", -2), "NoTie")):
            self.bad_deed(Dealer(small_store()), made + [deed, ("add_place", "p", {}), ("add_tie", "a", 0, 0, {})], 2, word)
        # A place that is made is no tie, and the other way about.
        self.bad_deed(Dealer(small_store()), [("add_place", "p", {}), ("take_tie", -1)], 1, "NoTie")
        self.bad_deed(Dealer(small_store()), [("add_tie", "a", 0, 0, {}), ("take_place", -1)], 1, "NoPlace")

    def test_numbers_of_ones_that_are_gone(self):
        dealer = Dealer(small_store())
        self.bad_deed(dealer, [("add_place", "p", {}), ("take_place", -1), ("set_place", -1, "u", 1)], 2, "NoPlace")
        self.bad_deed(dealer, [("add_place", "p", {}), ("take_place", -1), ("take_place", -1)], 2, "NoPlace")
        self.bad_deed(dealer, [("add_tie", "a", 0, 0, {}), ("take_tie", -1), ("set_tie", -1, "u", 1)], 2, "NoTie")
        self.bad_deed(dealer, [("take_tie", 0), ("take_tie", 0)], 1, "NoTie")
        self.bad_deed(dealer, [("take_tie", 0), ("take_place", 0), ("set_place", 0, "u", 1)], 2, "NoPlace")
        self.bad_deed(dealer, [("take_tie", 0), ("take_place", 0), ("add_tie", "a", 0, 1, {})], 2, "NoPlace")

    def test_tied_by_what_is_made_in_this_dealing(self):
        dealer = Dealer(Store())
        self.bad_deed(dealer, [("add_place", "p", {}), ("add_tie", "a", -1, -1, {}), ("take_place", -1)], 2, "Tied")
        self.same(dealer.deal([("add_place", "p", {}), ("add_tie", "a", -1, -1, {}), ("take_tie", -1),
                               ("take_place", -1)]), [0, 0, None, None])
        self.same(state_of(dealer.told_store()), ((), 1, 1))

    def test_at_the_first_and_at_the_last_of_forty(self):
        right = [("add_place", "q", {"n": n}) if n % 2 else ("add_tie", "b", 0, 1, {}) for n in range(39)]
        for wrong, word in ((("take_place", 99), "NoPlace"), (("take_tie", 99), "NoTie"), (("take_place", 1), "Tied")):
            self.bad_deed(Dealer(small_store()), [wrong] + right, 0, word)
            self.bad_deed(Dealer(small_store()), right + [wrong], 39, word)
            self.bad_deed(Dealer(small_store()), right[:7] + [wrong, wrong] + right[7:], 7, word)

    def test_the_first_refused_deed_is_told(self):
        self.bad_deed(Dealer(small_store()), [("take_tie", 0), ("take_place", 3), ("take_tie", 9), ("take_place", 9)],
                      1, "Tied")

    def test_numbers_that_come_next_are_as_they_were(self):
        dealer = Dealer(small_store())
        self.bad_deed(dealer, [("add_place", "p", {})] * 5 + [("add_tie", "a", 0, 0, {})] * 5 + [("take_tie", 1)], 10,
                      "NoTie")
        self.same(dealer.deal([("add_place", "p", {}), ("add_tie", "a", -1, -1, {})]), [4, 3])

    def test_a_bad_deed_goes_ahead_of_a_broken_rule(self):
        dealer = Dealer(small_store())
        dealer.add_rule(HAS_U)
        self.bad_deed(dealer, [("add_place", "q", {}), ("take_tie", 9)], 1, "NoTie")


class Rules(DealerCase):
    def test_each_sort_of_rule_behind_a_dealing(self):
        cases = ((HAS_U, [("add_place", "q", {"u": "x"})], ("place", 4)),
                 (ALONE, [("add_place", "q", {"u": 1}), ("add_place", "q", {"u": 1})], ("place", 5)),
                 (ENDS, [("add_place", "q", {}), ("add_tie", "b", -1, -1, {})], ("tie", 3)),
                 (MANY, [("add_place", "q", {}), ("add_tie", "b", 0, -1, {}), ("add_tie", "b", 0, -1, {})], ("place", 4)),
                 (NEVER, [("add_place", "q", {"u": 13})], ("row", (4,))),
                 (RINGLESS, [("add_tie", "a", 3, 0, {})], ("place", 0)))
        for rule, deeds, found in cases:
            self.assertIs(is_rule(rule), True)
            dealer = Dealer(small_store())
            self.assertIs(dealer.add_rule(rule), None)
            self.broken(dealer, lambda: dealer.deal(deeds), rule[1], found)
            self.same(dealer.told_rules(), [rule])
            for other, _, _ in cases:
                if other != rule:
                    free = Dealer(small_store())
                    free.add_rule(other)
                    if breach(dealt_tried(small_store(), deeds)[1], other) is None:
                        free.deal(deeds)

    def test_numbers_that_come_next_are_as_they_were(self):
        dealer = Dealer(small_store())
        dealer.add_rule(HAS_U)
        self.broken(dealer, lambda: dealer.deal([("add_tie", "a", 0, 0, {}), ("add_place", "q", {})]), "hasu", ("place", 4))
        self.same(dealer.deal([("add_place", "q", {"u": 1}), ("add_tie", "a", -1, -1, {})]), [4, 3])

    def test_a_rule_broken_in_between_and_mended_holds(self):
        dealer = Dealer(small_store())
        for rule in ALL_RULES:
            dealer.add_rule(rule)
        self.same(dealer.deal([("add_place", "q", {}), ("set_place", -1, "u", 13), ("set_place", -1, "u", 1),
                               ("add_tie", "a", 3, 0, {}), ("take_tie", -1), ("add_tie", "b", -1, 0, {}),
                               ("take_tie", -2)]), [4, None, None, 3, None, 4, None])
        self.same(dealer.told_store().place(4), ("q", (("u", 1),)))

    def test_the_first_rule_that_does_not_hold_in_the_order_in_which_they_came(self):
        deeds = [("add_place", "q", {"u": 13}), ("add_place", "q", {}), ("add_tie", "a", 3, 0, {})]
        found = {"hasu": ("place", 5), "never": ("row", (4,)), "ringless": ("place", 0)}
        chance = random.Random(103)
        for _ in range(12):
            rules = list(ALL_RULES)
            chance.shuffle(rules)
            dealer = Dealer(small_store())
            for rule in rules:
                dealer.add_rule(rule)
            first = [rule[1] for rule in rules if rule[1] in found][0]
            self.broken(dealer, lambda: dealer.deal(deeds), first, found[first])
            self.same(dealer.told_rules(), rules)

    def test_no_deeds_at_all_with_rules(self):
        dealer = Dealer(small_store())
        for rule in ALL_RULES:
            dealer.add_rule(rule)
        self.same(dealer.deal([]), [])

    def test_add_rule_of_one_that_does_not_hold_now(self):
        dealer = Dealer(small_store())
        rule = ("field", "vtext", "p", "v", "text")
        self.broken(dealer, lambda: dealer.add_rule(rule), "vtext", ("place", 0))
        self.same(dealer.told_rules(), [])
        self.broken(dealer, lambda: dealer.add_rule(("ends", "ab", "a", "p", "q")), "ab", ("tie", 0))
        self.broken(dealer, lambda: dealer.add_rule(("never", "ab", ((SPOT,) * 2, ((0, 1, "all", AF),), ()))), "ab",
                    ("row", (0, 1)))
        # The name is still free, and it isn't looked at behind dealings.
        dealer.deal([("set_place", 1, "v", None)])
        dealer.deal([("set_place", n, "v", "x") for n in (0, 1, 3)])
        dealer.add_rule(rule)
        self.broken(dealer, lambda: dealer.deal([("set_place", 3, "v", None)]), "vtext", ("place", 3))

    def test_taken(self):
        dealer = Dealer(small_store())
        dealer.add_rule(HAS_U)
        for rule in (HAS_U, ("field", "hasu", "r", "w", "text"), ("ringless", "hasu", ROAD)):
            self.assertIs(type(self.stays(dealer, lambda: dealer.add_rule(rule))), Taken)
        dealer.add_rule(("field", "hasv", "q", "u", "number"))
        self.same([rule[1] for rule in dealer.told_rules()], ["hasu", "hasv"])

    def test_taken_goes_ahead_of_broken(self):
        dealer = Dealer(small_store())
        dealer.add_rule(HAS_U)
        self.assertIs(type(self.stays(dealer, lambda: dealer.add_rule(("field", "hasu", "p", "v", "text")))), Taken)
        self.broken(dealer, lambda: dealer.add_rule(("field", "other", "p", "v", "text")), "other", ("place", 0))

    def test_twenty_rules(self):
        dealer = Dealer(small_store())
        rules = [("field", "r" + "abcdefghijklmnopqrst"[n], "q", "u", "number") for n in range(19)]
        rules.append(("alone", "last", "q", "u"))
        for rule in rules:
            dealer.add_rule(rule)
        self.same(dealer.told_rules(), rules)
        self.broken(dealer, lambda: dealer.deal([("add_place", "q", {"u": 1}), ("add_place", "q", {"u": 1})]), "last",
                    ("place", 5))
        self.broken(dealer, lambda: dealer.deal([("add_place", "q", {})]), "ra", ("place", 4))
        self.same(dealer.deal([("add_place", "q", {"u": 1}), ("add_place", "q", {"u": 2})]), [4, 5])

    def test_by_chance(self):
        chance = random.Random(104)
        seen = []
        for _ in range(60):
            store = small_store()
            dealer = Dealer(store)
            rules = chance.sample(ALL_RULES + (("many", "pmany", "p", "a", "forth", 0, 2), ("alone", "palone", "p", "u")), 4)
            for rule in rules:
                dealer.add_rule(rule)
            for _ in range(10):
                deeds = [random_deed(chance) for _ in range(chance.randrange(1, 4))]
                found, behind = dealt_tried(store, deeds)
                if not isinstance(found, list):
                    self.bad_deed(dealer, deeds, found, behind)
                    seen.append("bad")
                    continue
                breaches = [(rule[1], breach(behind, rule)) for rule in rules if breach(behind, rule) is not None]
                if breaches:
                    self.broken(dealer, lambda: dealer.deal(deeds), *breaches[0])
                    seen.append("broken")
                else:
                    self.same(dealer.deal(deeds), found)
                    store = behind
                    seen.append("done")
                self.same(state_of(dealer.told_store()), state_of(store))
        for found in ("bad", "broken", "done"):
            self.assertGreater(seen.count(found), 40, found)


if __name__ == "__main__":
    unittest.main()
