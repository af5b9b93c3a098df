"""Point 20: kept answers, and what is new in them."""

import random
import unittest

from dealing import dealt_tried, likely_deed, random_deed, small_store, state_of
from laying import SPOT, lone_store, random_pattern, town_store
from making import same_kinds
from trying import AF, ANY, EMPTY, FORTH, ROAD, STAR, lists_in, store_of
from webstore.asking import ask
from webstore.dealer import Dealer
from webstore.errors import BadDeed, Broken, NoEnd, TooMany, WebError
from webstore.keeper import Kept
from webstore.store import Store

TRIPS = ((SPOT,) * 2, ((0, 1, "all", ROAD),), (("unlike", 0, 1),))
ALL = ((SPOT,), (), ())


def asked(store, pattern):
    """What ask tells, or the refusal."""
    try:
        return ask(store, pattern)
    except NoEnd as error:
        return NoEnd, error.row
    except TooMany:
        return TooMany, None


def news_tried(before, now):
    """The news between two answers, by the words of the document."""
    before, now = dict(before), dict(now)
    found = []
    for row in sorted(list(before) + [row for row in now if row not in before]):
        by = now.get(row, 0) - before.get(row, 0)
        if by:
            found.append((row, by))
    return found


class KeeperCase(unittest.TestCase):
    def same(self, told, wanted):
        self.assertTrue(same_kinds(told, wanted), (told, wanted))

    def refused(self, ask_it, error, row=None):
        for _ in range(2):
            with self.assertRaises(WebError) as caught:
                ask_it()
            self.assertIs(type(caught.exception), error)
            if error is NoEnd:
                self.same(caught.exception.row, row)

    def check(self, kept, dealer, pattern):
        """Answers are what ask tells now, and rows_with what stands in them."""
        wanted = asked(dealer.told_store(), pattern)
        if isinstance(wanted, tuple):
            self.refused(kept.answers, *wanted)
            self.refused(lambda: kept.rows_with(0), *wanted)
            return None
        for _ in range(2):
            self.same(kept.answers(), wanted)
        for place in (-1, 0, 1, 2, 3, 99):
            self.same(kept.rows_with(place), [row for row, _ in wanted if place in row])
        return wanted


class Answers(KeeperCase):
    def test_what_ask_tells_behind_each_dealing(self):
        dealer = Dealer(town_store())
        kept = Kept(dealer, TRIPS)
        self.same(self.check(kept, dealer, TRIPS), ask(town_store(), TRIPS))
        for deeds in ([], [("take_tie", 0)], [("add_tie", "b", 0, 1, {})], [("add_place", "p", {})],
                      [("add_tie", "a", 0, 6, {}), ("add_tie", "a", 0, 6, {})], [("take_tie", 7), ("set_place", 0, "u", None)],
                      [("take_tie", n) for n in (1, 2, 3, 4, 5, 6, 8)]):
            dealer.deal(deeds)
            self.check(kept, dealer, TRIPS)
        self.same(kept.answers(), [])

    def test_behind_a_refused_dealing_all_as_ahead(self):
        dealer = Dealer(town_store())
        dealer.add_rule(("ringless", "r", ROAD))
        kept = Kept(dealer, TRIPS)
        wanted = kept.answers()
        for deeds in ([("take_tie", 0), ("take_tie", 0)], [("add_tie", "a", 3, 0, {})], [("add_tie", "a", 0, 0, {})],
                      [("add_tie", "a", 4, 4, {}), ("take_tie", 99)]):
            with self.assertRaises((BadDeed, Broken)):
                dealer.deal(deeds)
            self.same(kept.answers(), wanted)
            self.same(kept.news(), [])
        self.check(kept, dealer, TRIPS)

    def test_refused_alike_and_told_again(self):
        dealer = Dealer(store_of(4, [("a", 0, 1), ("a", 1, 2)]))
        kept = Kept(dealer, TRIPS)
        wanted = kept.answers()
        dealer.deal([("add_tie", "b", 3, 3, {}), ("add_tie", "b", 2, 3, {})])
        self.refused(kept.answers, NoEnd, (0, 3))
        self.refused(kept.news, NoEnd, (0, 3))
        self.refused(lambda: kept.rows_with(1), NoEnd, (0, 3))
        self.refused(lambda: kept.rows_with(99), NoEnd, (0, 3))
        self.check(kept, dealer, TRIPS)
        dealer.deal([("take_tie", 2)])
        self.same([row for row, _ in kept.answers()], [(0, 1), (0, 2), (0, 3), (1, 2), (1, 3), (2, 3)])
        dealer.deal([("take_tie", 3)])
        self.same(kept.answers(), wanted)

    def test_too_many(self):
        pattern = ((SPOT,) * 2, (), ())
        dealer = Dealer(lone_store(14))
        kept = Kept(dealer, pattern)
        self.assertEqual(len(kept.answers()), 196)
        dealer.deal([("add_place", "p", {})])
        self.refused(kept.answers, TooMany)
        self.refused(kept.news, TooMany)
        self.refused(lambda: kept.rows_with(0), TooMany)
        dealer.deal([("take_place", 14), ("take_place", 0)])
        self.assertEqual(len(kept.answers()), 169)
        self.same(kept.rows_with(14), [])

    def test_the_dealer_s_store_and_not_the_handed_one(self):
        store = town_store()
        dealer = Dealer(store)
        kept = Kept(dealer, ALL)
        store.add_place("p", {})
        dealer.told_store().add_place("p", {})
        self.same(kept.answers(), [((n,), 1) for n in (0, 1, 3, 4, 5)])
        self.same(kept.news(), [])

    def test_keeping_changes_nothing_in_the_dealer(self):
        dealer = Dealer(town_store())
        kept = Kept(dealer, TRIPS)
        kept.answers(), kept.news(), kept.rows_with(0)
        self.same(state_of(dealer.told_store()), state_of(town_store()))
        self.same(dealer.told_rules(), [])


class News(KeeperCase):
    def test_rows_that_came_that_went_and_whose_count_changed(self):
        dealer = Dealer(store_of(4, [("a", 0, 1), ("a", 0, 1), ("a", 1, 2)]))
        kept = Kept(dealer, TRIPS)
        self.same(kept.answers(), [((0, 1), 2), ((0, 2), 2), ((1, 2), 1)])
        self.same(kept.news(), [])
        dealer.deal([("add_tie", "a", 3, 0, {})])
        self.same(kept.news(), [((3, 0), 1), ((3, 1), 2), ((3, 2), 2)])
        dealer.deal([("take_tie", 2), ("add_tie", "b", 0, 1, {}), ("add_tie", "b", 0, 2, {})])
        self.same(kept.news(), [((0, 1), 1), ((0, 2), -1), ((1, 2), -1), ((3, 1), 1), ((3, 2), -1)])
        dealer.deal([("take_tie", 0)])
        self.same(kept.news(), [((0, 1), -1), ((3, 1), -1)])

    def test_none_behind_news(self):
        dealer = Dealer(town_store())
        kept = Kept(dealer, ALL)
        dealer.deal([("add_place", "p", {})])
        self.same(kept.news(), [((6,), 1)])
        for _ in range(3):
            self.same(kept.news(), [])
        dealer.deal([("set_place", 6, "u", 1)])
        self.same(kept.news(), [])

    def test_at_first_against_when_it_was_made(self):
        dealer = Dealer(town_store())
        early = Kept(dealer, ALL)
        dealer.deal([("add_place", "p", {})])
        late = Kept(dealer, ALL)
        dealer.deal([("add_place", "p", {}), ("take_place", 6)])
        self.same(late.news(), [((6,), -1), ((7,), 1)])
        self.same(early.news(), [((7,), 1)])
        self.same(Kept(dealer, ALL).news(), [])

    def test_answers_are_no_news_told(self):
        dealer = Dealer(town_store())
        kept = Kept(dealer, ALL)
        dealer.deal([("add_place", "p", {})])
        kept.answers()
        kept.rows_with(6)
        self.same(kept.news(), [((6,), 1)])

    def test_several_dealings_between_two_news(self):
        dealer = Dealer(store_of(3, [("a", 0, 1)]))
        kept = Kept(dealer, TRIPS)
        dealer.deal([("add_tie", "a", 1, 2, {})])
        dealer.deal([("add_tie", "a", 1, 2, {})])
        dealer.deal([("take_tie", 0)])
        dealer.deal([("add_tie", "a", 0, 1, {})])
        self.same(kept.news(), [((0, 2), 2), ((1, 2), 2)])
        dealer.deal([("take_tie", 1)])
        dealer.deal([("add_tie", "a", 1, 2, {})])
        self.same(kept.news(), [])

    def test_a_refused_news_is_no_news_told(self):
        dealer = Dealer(store_of(3, [("a", 0, 1)]))
        kept = Kept(dealer, TRIPS)
        dealer.deal([("add_tie", "a", 1, 2, {})])
        self.same(kept.news(), [((0, 2), 1), ((1, 2), 1)])
        dealer.deal([("add_tie", "a", 1, 1, {}), ("add_tie", "a", 0, 1, {})])
        self.refused(kept.news, NoEnd, (0, 1))
        dealer.deal([("take_tie", 2)])
        self.same(kept.news(), [((0, 1), 1), ((0, 2), 1)])
        self.same(kept.news(), [])

    def test_made_while_ask_is_refused(self):
        dealer = Dealer(store_of(3, [("a", 0, 1), ("a", 1, 1)]))
        kept = Kept(dealer, TRIPS)
        self.refused(kept.answers, NoEnd, (0, 1))
        self.refused(kept.news, NoEnd, (0, 1))
        dealer.deal([("take_tie", 1)])
        self.same(kept.news(), [((0, 1), 1)])
        self.same(kept.news(), [])
        dealer = Dealer(lone_store(15))
        kept = Kept(dealer, ((SPOT,) * 2, (), ()))
        self.refused(kept.news, TooMany)
        dealer.deal([("take_place", n) for n in range(2, 15)])
        self.same(kept.news(), [((0, 0), 1), ((0, 1), 1), ((1, 0), 1), ((1, 1), 1)])
        dealer.deal([("take_place", 0)])
        self.same(kept.news(), [((0, 0), -1), ((0, 1), -1), ((1, 0), -1)])

    def test_two_keepers_of_one_dealer_and_one_pattern(self):
        dealer = Dealer(town_store())
        one, other = Kept(dealer, ALL), Kept(dealer, ALL)
        dealer.deal([("add_place", "p", {})])
        self.same(one.news(), [((6,), 1)])
        dealer.deal([("add_place", "p", {})])
        self.same(one.news(), [((7,), 1)])
        self.same(other.news(), [((6,), 1), ((7,), 1)])
        self.same(one.news(), [])
        self.same(other.news(), [])

    def test_large_counts(self):
        store = store_of(8, [("a", n, n + 1) for n in range(7) for _ in range(10)])
        dealer = Dealer(store)
        pattern = ((SPOT,) * 2, ((0, 1, "all", ("many", AF, 6, 6)),), ())
        kept = Kept(dealer, pattern)
        self.same(kept.answers(), [((0, 6), 10 ** 6), ((1, 7), 10 ** 6)])
        dealer.deal([("take_tie", 0), ("add_tie", "a", 6, 7, {})])
        self.same(kept.news(), [((0, 6), -10 ** 5), ((1, 7), 10 ** 5)])


class RowsWith(KeeperCase):
    def test_a_place_at_several_spots_its_row_once(self):
        dealer = Dealer(lone_store(3))
        kept = Kept(dealer, ((SPOT,) * 2, (), ()))
        self.same(kept.rows_with(1), [(0, 1), (1, 0), (1, 1), (1, 2), (2, 1)])
        kept = Kept(dealer, ((SPOT,) * 3, ((0, 1, "any", EMPTY), (1, 2, "any", EMPTY)), ()))
        self.same(kept.rows_with(2), [(2, 2, 2)])

    def test_one_that_is_not_there(self):
        dealer = Dealer(town_store())
        kept = Kept(dealer, ALL)
        for place in (2, 6, 99, -1, -5, 10 ** 12):
            self.same(kept.rows_with(place), [])
        dealer.deal([("add_place", "p", {})])
        self.same(kept.rows_with(6), [(6,)])
        dealer.deal([("take_place", 6)])
        self.same(kept.rows_with(6), [])

    def test_one_that_is_there_but_in_no_row(self):
        dealer = Dealer(town_store())
        kept = Kept(dealer, ((("q", ("any",)),), (), ()))
        self.same(kept.rows_with(0), [])
        self.same(kept.rows_with(4), [(4,)])

    def test_behind_dealings(self):
        dealer = Dealer(store_of(3, [("a", 0, 1), ("a", 1, 2)]))
        kept = Kept(dealer, TRIPS)
        self.same(kept.rows_with(2), [(0, 2), (1, 2)])
        dealer.deal([("take_tie", 0)])
        self.same(kept.rows_with(2), [(1, 2)])
        self.same(kept.rows_with(0), [])


class Own(KeeperCase):
    def test_lists_are_the_asker_s_own(self):
        dealer = Dealer(town_store())
        kept = Kept(dealer, TRIPS)
        for ask_it in (kept.answers, lambda: kept.rows_with(1)):
            first, second = ask_it(), ask_it()
            self.same(first, second)
            mine = lists_in(first) + lists_in(second)
            self.assertEqual(len({id(each) for each in mine}), len(mine))
            first.clear()
            self.same(ask_it(), second)
            second.append("spoiled")
            self.same(ask_it(), second[:-1])
        self.same(kept.news(), [])

    def test_spoiled_news_changes_nothing(self):
        dealer = Dealer(store_of(3, [("a", 0, 1)]))
        kept = Kept(dealer, TRIPS)
        dealer.deal([("add_tie", "a", 1, 2, {})])
        told = kept.news()
        told.clear()
        told.append(((0, 0), 7))
        self.same(kept.news(), [])
        mine = kept.news()
        dealer.deal([("take_tie", 0)])
        self.same(mine, [])
        self.same(kept.news(), [((0, 1), -1), ((0, 2), -1)])

    def test_what_was_told_stays(self):
        dealer = Dealer(town_store())
        kept = Kept(dealer, ALL)
        answers, rows = kept.answers(), kept.rows_with(0)
        dealer.deal([("add_place", "p", {})])
        self.same(answers, [((n,), 1) for n in (0, 1, 3, 4, 5)])
        self.same(rows, [(0,)])

    def test_two_dealers(self):
        one, other = Dealer(town_store()), Dealer(town_store())
        kept = Kept(one, ALL)
        other.deal([("add_place", "p", {})])
        self.same(kept.news(), [])
        one.deal([("add_place", "p", {})])
        self.same(kept.news(), [((6,), 1)])


class ByChance(KeeperCase):
    def test_against_ask(self):
        chance = random.Random(111)
        patterns = (TRIPS, (TRIPS[0], TRIPS[1], ()), ((SPOT,) * 2, ((0, 1, "all", ("many", ANY, 0, 2)),), ()),
                    ((("p", ("has", "u")), SPOT), ((0, 1, "short", STAR),), (("unlike", 0, 1),)),
                    ((SPOT,) * 2, ((0, 1, "plain", STAR),), (("under", 0, "u", 1, "u"),)),
                    ((SPOT,) * 3, ((0, 1, "any", AF), (1, 2, "all", FORTH)), ()))
        seen = []
        for count in range(120):
            store = Store() if count % 3 == 0 else small_store()
            dealer = Dealer(store)
            pattern = patterns[count % 6] if count < 90 else random_pattern(chance, 2, 2, 1, 3)
            kept = Kept(dealer, pattern)
            last = asked(store, pattern)
            last = [] if isinstance(last, tuple) else last
            for _ in range(12):
                deeds = [likely_deed(chance, store) for _ in range(chance.randrange(4))]
                if chance.random() < 0.2:
                    deeds.append(random_deed(chance))
                found, behind = dealt_tried(store, deeds)
                if isinstance(found, list):
                    dealer.deal(deeds)
                    store = behind
                else:
                    self.assertRaises(BadDeed, dealer.deal, deeds)
                now = self.check(kept, dealer, pattern)
                if chance.random() < 0.5:
                    continue
                if now is None:
                    self.refused(kept.news, *asked(store, pattern))
                    seen.append("refused")
                else:
                    wanted = news_tried(last, now)
                    self.same(kept.news(), wanted)
                    last = now
                    seen.append(bool(wanted))
        for found in (True, False, "refused"):
            self.assertGreater(seen.count(found), 20, (found, seen.count(found)))


if __name__ == "__main__":
    unittest.main()
