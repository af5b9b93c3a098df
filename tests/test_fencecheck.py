"""Points 10 and 11: the checkers of fences and of levels."""

import random
import unittest

from making import is_number, odd_things, random_way
from test_walks import A, ANY, B, EMPTY, FAR, random_store, small_store
from webstore.errors import NoPlace
from webstore.fencecheck import shows_fence, shows_levels
from webstore.store import rows_of
from webstore.walks import fence, is_walk, legs_at
from webstore.ways import is_way, rests, tells

STAR = ("again", ANY)
ROWS = (list, tuple)


def exchanged(thing):
    """A paper with lists and tuples exchanged, but in its ways and legs."""
    if isinstance(thing, tuple) and (is_way(thing) or (len(thing) == 2 and thing[1] in ("forth", "back"))):
        return thing
    if isinstance(thing, ROWS):
        return (tuple if isinstance(thing, list) else list)(exchanged(part) for part in thing)
    return thing


def comes_of(store, pair):
    """The pairs that come of a pair by one leg."""
    place, way = pair
    return [(end, rest) for tie, turn, end in legs_at(store, place) for rest in rests(way, store.tie(tie)[0], turn)]


def are_pairs(store, thing):
    return isinstance(thing, ROWS) and all(
        isinstance(pair, ROWS) and len(pair) == 2 and is_number(pair[0]) and pair[0] in store.places()
        and is_way(pair[1]) for pair in thing)


def judged_fence(store, way, a, b, told):
    """Whether told is a walk or a fence, by the words of the document."""
    if not isinstance(told, ROWS) or len(told) != 2:
        return False
    if told[0] == "walk":
        return is_walk(store, way, a, b, told[1])
    if told[0] != "fence" or not are_pairs(store, told[1]):
        return False
    pairs = [tuple(pair) for pair in told[1]]
    return ((a, way) in pairs and not any(place == b and tells(rest, ()) for place, rest in pairs)
            and all(further in pairs for pair in pairs for further in comes_of(store, pair)))


def judged_levels(store, way, a, b, told):
    """Whether told is levels, by the words of the document."""
    if not isinstance(told, ROWS) or not all(are_pairs(store, level) for level in told):
        return False
    levels = [[tuple(pair) for pair in level] for level in told]
    if levels and (a, way) not in levels[0]:
        return False
    if any(place == b and tells(rest, ()) for level in levels for place, rest in level):
        return False
    return all(any(further in level for level in levels[:at + 2])
               for at in range(len(levels) - 1) for pair in levels[at] for further in comes_of(store, pair))


def spread_out(store, way, a, most):
    """So many lists of pairs, each of those that come first by so many legs."""
    levels, seen = [[(a, way)]], {(a, way)}
    while len(levels) < most:
        fresh = []
        for pair in levels[-1]:
            for further in comes_of(store, pair):
                if further not in seen:
                    seen.add(further)
                    fresh.append(further)
        levels.append(fresh)
    return levels


def fewest_legs(store, way, a, b):
    """The fewest legs of a walk of the way; None where there is none."""
    if fence(store, way, a, b)[0] == "fence":
        return None
    legs = 0
    while not any(place == b and tells(rest, ()) for place, rest in spread_out(store, way, a, legs + 1)[-1]):
        legs += 1
    return legs


class ShowsFence(unittest.TestCase):
    def setUp(self):
        self.store = small_store()

    def shows(self, told, wanted, way=STAR, a=0, b=4):
        self.assertIs(shows_fence(self.store, way, a, b, told), wanted, (told, way, a, b))

    def test_walks(self):
        walk = ((0, "forth"), (4, "forth"))
        for told in (("walk", walk), ["walk", walk], ("walk", list(walk)), ["walk", list(walk)]):
            self.shows(told, True, b=3)
            self.shows(told, False, b=1)
            self.shows(told, False, a=1, b=3)
            self.shows(told, False, way=("then", A, A), b=3)
            self.shows(told, True, way=("then", A, B), b=3)
        self.shows(("walk", ()), True, b=0)
        self.shows(("walk", []), True, b=0)
        self.shows(("walk", ()), False, b=1)
        self.shows(("walk", ()), False, way=A, b=0)

    def test_wrong_walks(self):
        leg = (0, "forth")
        for walk in (None, "", "ab", 0, True, leg, ([0, "forth"],), ((0, "either"),), ((True, "forth"),), (leg, leg),
                     ((7, "forth"),), (leg, None), (leg + (1,),)):
            self.shows(("walk", walk), False, b=1)
        for told in (("walk",), ("walk", (leg,), ()), ("Walk", (leg,)), ("fence", (leg,)), (leg,), "walk", ("walk", leg)):
            self.shows(told, False, b=1)

    def test_fence_that_was_told(self):
        told = fence(self.store, STAR, 0, 4)
        self.assertEqual(told[0], "fence")
        for paper in (told, list(told), (told[0], tuple(told[1])), exchanged(told),
                      ["fence", [list(pair) for pair in told[1]]], ("fence", tuple(list(pair) for pair in told[1]))):
            self.shows(paper, True)

    def test_pairs_by_hand(self):
        way = ("then", A, B)
        pairs = [(0, way), (1, B), (0, EMPTY), (3, EMPTY)]
        self.shows(("fence", pairs), True, way=way, b=1)
        self.shows(("fence", pairs), True, way=way, b=4)
        self.shows(("fence", pairs), False, way=way, b=0)
        self.shows(("fence", pairs), False, way=way, b=3)
        self.shows(("fence", pairs), False, way=way, a=1, b=4)
        self.shows(("fence", []), False, way=way, b=4)
        self.shows(("fence", [(4, way)]), True, way=way, a=4, b=0)
        self.shows(("fence", [(4, EMPTY)]), False, way=EMPTY, a=4, b=4)
        self.shows(("fence", [(4, EMPTY)]), True, way=EMPTY, a=4, b=0)

    def test_more_pairs_than_needed(self):
        way = ("then", A, B)
        pairs = [(0, way), (1, B), (0, EMPTY), (3, EMPTY)]
        self.shows(("fence", pairs + [(4, A), (1, EMPTY)]), True, way=way, b=4)
        self.shows(("fence", pairs + [(4, EMPTY)]), False, way=way, b=4)
        self.shows(("fence", pairs + [(0, A)]), False, way=way, b=4)
        self.shows(("fence", pairs + [(0, A), (1, EMPTY)]), True, way=way, b=4)
        self.shows(("fence", pairs + [(0, A), (1, EMPTY)]), False, way=way, b=1)

    def test_spoiled_pairs(self):
        way = ("then", ("many", A, 1, 2), ("again", B))
        word, pairs = fence(self.store, way, 0, 4)
        self.assertEqual(word, "fence")
        for at, (place, rest) in enumerate(pairs):
            self.shows(("fence", pairs[:at] + pairs[at + 1:]), False, way=way)
            self.shows(("fence", pairs + [pairs[at]]), True, way=way)
            others = [(place, ("again", rest)), (place, list(rest)), (place, None), (place, "empty"), (place,),
                      (place, rest, rest), (True, rest), (False, rest), (None, rest), (str(place), rest),
                      ([place], rest), (rest, place), None, "ab", rest, (), []]
            others += [(other, rest) for other in (0, 1, 3, 4) + FAR if (other, rest) not in pairs]
            for other in others:
                self.shows(("fence", pairs[:at] + [other] + pairs[at + 1:]), False, way=way)
            for other in [(n, rest) for n in FAR] + [(True, rest), (place, list(rest)), None, [], rest]:
                self.shows(("fence", pairs + [other]), False, way=way)

    def test_true_stands_for_no_number(self):
        way = ("step", "zz", "forth")
        self.shows(("fence", [(1, way)]), True, way=way, a=1)
        self.shows(("fence", [(True, way)]), False, way=way, a=1)
        self.shows(("fence", [(1, way), (True, way)]), False, way=way, a=1)
        self.shows(("fence", [(0, way), (False, way)]), False, way=way, a=0)
        way = ("many", way, 1, 1)
        pairs = [(1, way)]
        self.shows(("fence", pairs), True, way=way, a=1)
        self.shows(("fence", pairs + [(1, ("many", way[1], True, 1))]), False, way=way, a=1)

    def test_wrong_papers(self):
        word, pairs = fence(self.store, STAR, 0, 4)
        for told in ((word,), (word, pairs, pairs), (word, pairs, None), ("walk", pairs), ("Fence", pairs), ("", pairs),
                     (None, pairs), (True, pairs), (pairs, word), pairs, (), [], None, True, 0, "fence", "fe",
                     ([word], pairs), (word, None), (word, "ab"), (word, 0), (word, {}), ((word, pairs),)):
            self.shows(told, False)

    def test_of_any_thing_true_or_false(self):
        for thing in odd_things():
            for told in (thing, ("fence", thing), ("walk", thing), ("fence", [(0, A), thing]), ("fence", [(0, thing)]),
                         ("fence", [(thing, A)]), (thing, [(4, A)])):
                wanted = judged_fence(self.store, A, 4, 0, told)
                self.shows(told, wanted, way=A, a=4, b=0)

    def test_told_papers_by_chance(self):
        chance = random.Random(24)
        seen = []
        for count in range(250):
            self.store, way = random_store(chance), random_way(chance, 1 + count % 12)
            a, b, other = [chance.choice(self.store.places()) for _ in range(3)]
            told = fence(self.store, way, a, b)
            self.shows(told, True, way, a, b)
            self.shows(exchanged(told), True, way, a, b)
            for paper in (told, fence(self.store, way, other, b)):
                wanted = judged_fence(self.store, way, a, other, paper)
                seen.append(wanted)
                self.shows(paper, wanted, way, a, other)
        self.assertGreater(seen.count(True), 30)
        self.assertGreater(seen.count(False), 30)

    def test_no_place_ahead_of_all_else(self):
        for n in FAR:
            for a, b in ((n, 0), (0, n), (n, n)):
                for told in (("walk", ()), ("fence", []), None, "x", ()):
                    with self.assertRaises(NoPlace):
                        shows_fence(self.store, STAR, a, b, told)

    def test_what_is_handed_in_stays(self):
        rows = rows_of(self.store)
        told = ["fence", [list(pair) for pair in fence(self.store, STAR, 0, 4)[1]]]
        before = repr(told)
        self.shows(told, True)
        self.shows(told, True)
        self.assertEqual(repr(told), before)
        self.assertEqual(rows_of(self.store), rows)


class ShowsLevels(unittest.TestCase):
    def setUp(self):
        self.store = small_store()

    def shows(self, told, wanted, way=STAR, a=0, b=3):
        self.assertIs(shows_levels(self.store, way, a, b, told), wanted, (told, way, a, b))

    def test_none(self):
        for a in (0, 1, 3, 4):
            for b in (0, 1, 3, 4):
                self.shows([], True, a=a, b=b)
                self.shows((), True, a=a, b=b)

    def test_by_hand(self):
        way = ("then", A, B)
        first, second, third = [(0, way)], [(1, B)], [(0, EMPTY), (3, EMPTY)]
        self.shows([first], True, way)
        self.shows([first, second], True, way)
        self.shows([first, second, third], False, way)
        self.shows([first, second, third], True, way, b=4)
        self.shows([first, second, third, []], True, way, b=4)
        self.shows([first, second, third, [], []], True, way, b=1)
        self.shows([first, second, third[:1]], False, way, b=4)
        self.shows([first, second + third, []], True, way, b=4)
        self.shows([first + second + third, [], []], True, way, b=4)
        self.shows([first, []], False, way)
        self.shows([second, first], False, way)
        self.shows([second], False, way)
        self.shows([[]], False, way)
        self.shows([[], first, second], False, way)
        self.shows([first, second, second], False, way)
        self.shows([first, first, second], False, way)
        self.shows([first, first], False, way)
        self.shows([first + second, first], False, way)
        self.shows([first, second], False, ("then", A, A))

    def test_with_lists_and_tuples_exchanged(self):
        way = ("then", A, B)
        for told in ([[(0, way)], [(1, B)]], (((0, way),), ((1, B),)), [[[0, way]], [[1, B]]], ([[0, way]], ([1, B],))):
            self.shows(told, True, way)
            self.shows(told, False, way, b=0, a=1)

    def test_end_by_which_the_row_without_steps_is_told(self):
        self.shows([[(0, STAR)]], False, b=0)
        self.shows([[(0, STAR)]], True, b=1)
        self.shows([[(0, STAR)], [(0, STAR), (1, STAR)]], False, b=1)
        self.shows([[(0, STAR), (3, STAR)]], False, b=3)
        self.shows([[(0, STAR), (3, A)]], True, b=3)
        self.shows([[(0, A)]], True, A, b=0)

    def test_spoiled(self):
        way = ("then", ("many", A, 1, 2), ("again", B))
        self.store.add_tie("a", 1, 0, {})
        levels = spread_out(self.store, way, 0, 5)
        self.shows(levels, True, way, b=4)
        for at, level in enumerate(levels):
            rest = levels[at + 1:]
            for paper in (levels[:at] + rest, levels[:at] + [level, level] + rest):
                self.shows(paper, judged_levels(self.store, way, 0, 4, paper), way, b=4)
            for spot, (place, each) in enumerate(level):
                left = level[:spot] + level[spot + 1:]
                self.shows(levels[:at] + [left] + rest, False, way, b=4)
                self.shows(levels[:at] + [level + [(place, each)]] + rest, True, way, b=4)
                if rest:
                    self.shows(levels[:at] + [left, rest[0] + [(place, each)]] + rest[1:], False, way, b=4)
                for other in ((True, each), (place, list(each)), (place,), (place, each, each), None, [], each, "ab",
                              (99, each), (-1, each), (2, each), (5, each), (place, ("again", each)), (None, each)):
                    self.shows(levels[:at] + [left + [other]] + rest, False, way, b=4)
                for other in ((True, each), (place, list(each)), (99, each), (2, each), None):
                    self.shows(levels[:at] + [level + [other]] + rest, False, way, b=4)

    def test_wrong_papers(self):
        for told in (None, True, False, 0, 1, "", "ab", [None], [0], ["ab"], [[0]], [[None]], [(0, STAR)], (0, STAR),
                     [[(0, STAR)], None], [[(0, STAR)], "x"], [[(0, STAR)], 0], [[[(0, STAR)]]], [[("0", STAR)]]):
            self.shows(told, False, b=4)

    def test_of_any_thing_true_or_false(self):
        for thing in odd_things():
            for told in (thing, [thing], [[(4, A)], thing], [[(4, A), thing]], [[(4, A)], [thing]], [[(thing, A)]],
                         [[(4, thing)]], [[(4, A)], [(0, thing)]]):
                self.shows(told, judged_levels(self.store, A, 4, 0, told), A, 4, 0)

    def test_as_many_as_the_fewest_legs_and_no_more(self):
        chance = random.Random(25)
        seen = []
        for count in range(250):
            self.store, way = random_store(chance), random_way(chance, 1 + count % 10)
            a, b = chance.choice(self.store.places()), chance.choice(self.store.places())
            least = fewest_legs(self.store, way, a, b)
            seen.append(least)
            for most in range(1, 7):
                levels = spread_out(self.store, way, a, most)
                self.shows(levels, least is None or most <= least, way, a, b)
                self.shows(exchanged(levels), least is None or most <= least, way, a, b)
        self.assertGreater(seen.count(None), 20)
        self.assertGreater(len([least for least in seen if least]), 20)

    def test_spoiled_by_chance(self):
        chance = random.Random(26)
        seen = []
        for count in range(600):
            self.store, way = random_store(chance), random_way(chance, 1 + count % 8)
            a, b = chance.choice(self.store.places()), chance.choice(self.store.places())
            levels = spread_out(self.store, way, a, chance.randrange(1, 5))
            pairs = [pair for level in levels for pair in level]
            for _ in range(chance.randrange(1, 4)):
                level = chance.choice(levels)
                if level and chance.random() < 0.5:
                    level.pop(chance.randrange(len(level)))
                level += chance.sample(pairs, chance.randrange(2))
            wanted = judged_levels(self.store, way, a, b, levels)
            seen.append(wanted)
            self.shows(levels, wanted, way, a, b)
        self.assertGreater(seen.count(True), 60)
        self.assertGreater(seen.count(False), 60)

    def test_no_place_ahead_of_all_else(self):
        for n in FAR:
            for a, b in ((n, 0), (0, n), (n, n)):
                for told in ([], [[(0, STAR)]], None, "x"):
                    with self.assertRaises(NoPlace):
                        shows_levels(self.store, STAR, a, b, told)

    def test_what_is_handed_in_stays(self):
        rows = rows_of(self.store)
        told = [[[0, STAR]], [[0, STAR], [1, STAR]]]
        self.shows(told, True)
        self.shows(told, True)
        self.assertEqual(told, [[[0, STAR]], [[0, STAR], [1, STAR]]])
        self.assertEqual(rows_of(self.store), rows)


if __name__ == "__main__":
    unittest.main()
