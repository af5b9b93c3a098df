"""Point 13: the checker of loops."""

import random
import unittest

from making import is_number, odd_things, random_way
from test_walks import FAR, random_store, small_store
from trying import AB, AF, ANY, BF, EMPTY, ROAD, STAR, line_of, rows_of_legs, store_of
from webstore.counting import how_many
from webstore.errors import Endless, NoPlace
from webstore.loopcheck import shows_loop
from webstore.store import rows_of
from webstore.walks import is_walk, legs_at

ROWS = (list, tuple)
ROUND = (5, "forth")


def judged(store, way, a, b, loop):
    """Whether a thing is a loop, by trying the ring many times; right where rests come round within so many."""
    if not isinstance(loop, ROWS) or len(loop) != 3:
        return False
    for row in loop:
        if not isinstance(row, ROWS) or not all(isinstance(leg, tuple) and len(leg) == 2 and is_number(leg[0])
                                                and leg[1] in ("forth", "back") for leg in row):
            return False
    head, ring, tail = [tuple(row) for row in loop]
    return len(ring) > 0 and all(is_walk(store, way, a, b, head + ring * times + tail) for times in range(40))


class ShowsLoop(unittest.TestCase):
    def setUp(self):
        self.store = small_store()

    def shows(self, loop, wanted, way=STAR, a=0, b=3):
        self.assertIs(shows_loop(self.store, way, a, b, loop), wanted, (loop, way, a, b))

    def test_by_hand(self):
        head, ring, tail = ((0, "forth"),), ((4, "forth"), (5, "forth"), (4, "back")), ((4, "forth"),)
        self.shows((head, ring, tail), True)
        self.shows((head, ((3, "forth"), (2, "forth")), tail), True)
        self.shows(((), ((0, "forth"), (3, "forth")), head + tail), True)
        self.shows((head + tail, (ROUND,), ()), True)
        self.shows(((), (ROUND,), ()), True, a=3)
        self.shows(((), (ROUND, ROUND), ()), True, way=("again", AF), a=3)
        self.shows(((), ((5, "back"),), ()), False, way=("again", AF), a=3)
        self.shows(((), ((5, "back"),), ()), True, way=("again", AB), a=3)

    def test_rows_may_be_lists_or_tuples(self):
        head, ring, tail = ((0, "forth"),), ((3, "forth"), (2, "forth")), ((4, "forth"),)
        for make in ROWS:
            for other in ROWS:
                self.shows((make(head), other(ring), make(tail)), True)
                self.shows([make(head), make(ring), other(tail)], True)
                self.shows((make(head), other(), make(tail)), False)

    def test_a_list_for_a_leg(self):
        head, ring, tail = ((0, "forth"),), ((3, "forth"), (2, "forth")), ((4, "forth"),)
        self.shows(([[0, "forth"]], ring, tail), False)
        self.shows((head, [[3, "forth"], (2, "forth")], tail), False)
        self.shows((head, [(3, "forth"), [2, "forth"]], tail), False)
        self.shows((head, ring, [[4, "forth"]]), False)

    def test_a_part_left_out_and_one_more(self):
        head, ring, tail = ((0, "forth"),), ((3, "forth"), (2, "forth")), ((4, "forth"),)
        loop = (head, ring, tail)
        for at in range(3):
            self.shows(loop[:at] + loop[at + 1:], False)
            self.shows(loop[:at] + ((),) + loop[at:], False)
        self.shows(loop + (tail,), False)
        self.shows(loop + (None,), False)
        self.shows((loop,), False)
        self.shows((), False)

    def test_an_empty_ring(self):
        walk = ((0, "forth"), (4, "forth"))
        for at in range(3):
            for ring in ((), []):
                self.shows((walk[:at], ring, walk[at:]), False)
        self.shows(((), (), ()), False, b=0)
        self.shows(((), (), ()), False, way=EMPTY, b=0)

    def test_ties_that_are_none_and_true_for_a_number(self):
        self.store = store_of(2, [("a", 0, 0), ("a", 0, 0), ("a", 0, 1)])
        self.shows(((), ((1, "forth"),), ((2, "forth"),)), True, way=ROAD, b=1)
        for leg in ((True, "forth"), (False, "forth"), (3, "forth"), (-1, "forth"), (10 ** 12, "forth"), (None, "forth"),
                    ("1", "forth"), ((1,), "forth"), (1, "either"), (1, "Forth"), (1, None), (1, True), (1, ["forth"]),
                    (1,), (1, "forth", 0), ("forth", 1), (), None, 1, "forth", True, ((1, "forth"),)):
            self.shows(((), (leg,), ((2, "forth"),)), False, way=ROAD, b=1)
            self.shows(((), ((1, "forth"), leg), ((2, "forth"),)), False, way=ROAD, b=1)
            self.shows(((leg,), ((1, "forth"),), ((2, "forth"),)), False, way=ROAD, b=1)
            self.shows(((), ((1, "forth"),), (leg,)), False, way=ROAD, b=1)
            self.shows(((), ((1, "forth"),), ((2, "forth"), leg)), False, way=ROAD, b=1)

    def test_rows_that_do_not_lead_on(self):
        head, ring, tail = ((0, "forth"),), ((3, "forth"), (2, "forth")), ((4, "forth"),)
        self.shows((head, ring[:1], tail), False)
        self.shows((head, ring[1:], tail), False)
        self.shows((head, ring[::-1], tail), False)
        self.shows((head, ring + (ROUND,), tail), False)
        self.shows((head, tail, ()), False)
        self.shows((head, (ROUND,), tail), False)
        self.shows(((), ring, tail), False)
        self.shows((head, ring, ()), False)
        self.shows((head, ring, (ROUND,)), False)
        self.shows((ring, ring, tail), False)

    def test_head_and_tail_exchanged(self):
        head, ring, tail = ((0, "forth"),), ((3, "forth"), (2, "forth")), ((4, "forth"),)
        self.shows((tail, ring, head), False)
        self.shows((ring, head, tail), False)
        self.shows((head, tail, ring), False)
        # All three go round one place, but the way asks for one of them first.
        self.store = store_of(1, [("a", 0, 0), ("b", 0, 0), ("c", 0, 0)])
        way = ("then", AF, ("then", ("again", BF), ("step", "c", "forth")))
        legs = [((tie, "forth"),) for tie in range(3)]
        for one in range(3):
            for two in range(3):
                for three in range(3):
                    self.shows((legs[one], legs[two], legs[three]), (one, two, three) == (0, 1, 2), way=way, b=0)

    def test_begins_or_ends_elsewhere(self):
        head, ring, tail = ((0, "forth"),), ((3, "forth"), (2, "forth")), ((4, "forth"),)
        for a in (0, 1, 3, 4):
            for b in (0, 1, 3, 4):
                self.shows((head, ring, tail), (a, b) == (0, 3), a=a, b=b)

    def test_a_ring_that_can_be_gone_only_so_often(self):
        loop = ((), (ROUND,), ())
        for low in range(7):
            for high in range(low, 7):
                self.shows(loop, False, way=("many", AF, low, high), a=3)
                many = ("many", ("many", AF, low, high), 0, 6)
                self.shows(loop, False, way=many, a=3)
                self.shows(loop, (low, high) != (0, 0) and low <= 1, way=("again", many), a=3)
        # Once and not twice, twice and not once, not left out.
        self.shows(loop, False, way=("or", EMPTY, AF), a=3)
        self.shows(loop, False, way=("then", AF, ("again", AF)), a=3)
        self.shows(((ROUND,), (ROUND,), ()), True, way=("then", AF, ("again", AF)), a=3)
        self.shows(((), (ROUND,), (ROUND,)), True, way=("then", AF, ("again", AF)), a=3)
        self.shows(loop, False, way=("again", ("then", AF, AF)), a=3)
        self.shows(((), (ROUND, ROUND), ()), True, way=("again", ("then", AF, AF)), a=3)
        self.shows(loop, False, way=("or", ("many", AF, 0, 6), ("many", ("many", AF, 5, 6), 0, 6)), a=3)

    def test_rounds_that_are_told_by_turns(self):
        # Each second round by the one way, the others by the other one; a far round that none tells.
        loop = ((), (ROUND,), ())
        even = ("again", ("then", AF, AF))
        self.shows(loop, True, way=("or", even, ("then", AF, even)), a=3)
        five = ("again", ("many", AF, 5, 5))
        way = ("many", AF, 0, 6)
        self.shows(loop, True, way=("then", five, way), a=3)
        self.shows(loop, False, way=("then", ("again", ("many", ("then", AF, AF), 4, 4)), way), a=3)
        self.shows(loop, False, way=("or", ("again", ("many", AF, 2, 3)), EMPTY), a=3)
        self.shows(loop, True, way=("or", ("again", ("many", AF, 2, 3)), AF), a=3)
        long_one = ("then", ("many", ("many", AF, 6, 6), 6, 6), ("again", AF))
        self.shows(loop, False, way=("or", ("many", ("many", AF, 0, 6), 0, 5), ("then", ANY, long_one)), a=3)
        self.shows(loop, True, way=("or", ("many", ("many", AF, 0, 6), 0, 6), ("then", ANY, long_one)), a=3)

    def test_wrong_things(self):
        for loop in (None, True, False, 0, 3, "", "abc", ("abc", "abc", "abc"), (None, None, None), ((), True, ()),
                     ((), 1, ()), ((), "a", ()), ((), (None,), ()), ((), ((),), ()), ((), ([],), ()), ((), None, ())):
            for a in (0, 3):
                self.shows(loop, False, a=a)
                self.shows(loop, False, a=a, b=0)

    def test_of_any_thing_true_or_false(self):
        leg = ROUND
        for thing in odd_things():
            for loop in (thing, (thing, (leg,), ()), ((), thing, ()), ((), (leg,), thing), ((), (leg, thing), ()),
                         ((), ((thing, "forth"),), ()), ((), ((5, thing),), ())):
                wanted = thing in ((), []) and loop in (([], (leg,), ()), ((), (leg,), ()), ((), (leg,), []))
                wanted = wanted or (loop == ((), ((5, thing),), ()) and isinstance(thing, str)
                                    and thing in ("forth", "back"))
                self.assertIs(shows_loop(self.store, STAR, 3, 3, loop), wanted, repr(loop))

    def test_beyond_the_bounds(self):
        self.shows(((ROUND,) * 60, (ROUND,) * 70, (ROUND,) * 80), True, way=("again", AF), a=3)
        self.shows(((ROUND,) * 60, (ROUND,) * 71, (ROUND,) * 80), False, way=("again", ("then", AF, AF)), a=3)

    def test_told_loops_by_chance(self):
        chance = random.Random(41)
        seen = []
        for count in range(250):
            self.store, way = random_store(chance), random_way(chance, 1 + count % 10)
            a, b, other = [chance.choice(self.store.places()) for _ in range(3)]
            try:
                how_many(self.store, way, a, b)
                continue
            except Endless as error:
                loop = error.loop
            self.shows(loop, True, way, a, b)
            self.shows([list(row) for row in loop], True, way, a, b)
            seen.append(judged(self.store, way, a, other, loop))
            self.shows(loop, seen[-1], way, a, other)
            for paper in ((loop[2], loop[1], loop[0]), (loop[0] + loop[1], loop[1], loop[2]),
                          (loop[0], loop[1] * 2, loop[2]), (loop[0], loop[1][1:], loop[2])):
                seen.append(judged(self.store, way, a, b, paper))
                self.shows(paper, seen[-1], way, a, b)
        self.assertGreater(seen.count(True), 50)
        self.assertGreater(seen.count(False), 50)

    def test_rings_by_chance(self):
        chance = random.Random(42)
        seen = []
        for count in range(1500):
            self.store, way = random_store(chance, 4), random_way(chance, 1 + count % 9, most=3)
            a = chance.choice(self.store.places())
            head, place = chance.choice(rows_of_legs(self.store, a, 1))
            rings = [row for row, end in rows_of_legs(self.store, place, 2) or [] if end == place]
            tail, b = chance.choice(rows_of_legs(self.store, place, 1))
            if rings:
                loop = (head, chance.choice(rings), tail)
                wanted = judged(self.store, way, a, b, loop)
                seen.append(wanted)
                self.shows(loop, wanted, way, a, b)
        self.assertGreater(seen.count(True), 30)
        self.assertGreater(seen.count(False), 300)

    def test_no_place_ahead_of_all_else(self):
        for n in FAR:
            for a, b in ((n, 0), (0, n), (n, n)):
                for loop in (((), (ROUND,), ()), None, "x", (), ((), (), ())):
                    with self.assertRaises(NoPlace) as caught:
                        shows_loop(self.store, STAR, a, b, loop)
                    self.assertIs(type(caught.exception), NoPlace)

    def test_what_is_handed_in_stays(self):
        rows = rows_of(self.store)
        loop = [[(0, "forth")], [(3, "forth"), (2, "forth")], [(4, "forth")]]
        kept = repr(loop)
        self.shows(loop, True)
        self.shows(loop, True)
        self.assertEqual(repr(loop), kept)
        self.assertEqual(rows_of(self.store), rows)

    def test_in_a_long_line(self):
        self.store = line_of(*[1] * 39)
        self.store.add_tie("b", 39, 0, {})
        self.assertEqual(len(legs_at(self.store, 0)), 2)
        legs = tuple((n, "forth") for n in range(40))
        self.shows(((), legs, legs[:39]), True, way=ROAD, b=39)
        self.shows((legs[:10], legs[10:] + legs[:10], legs[10:39]), True, way=ROAD, b=39)
        self.shows((legs[:10], legs[10:] + legs[:10], legs[10:39]), False, way=("again", AF), b=39)
        self.shows((legs[:10], legs[10:] + legs[:9], legs[10:39]), False, way=ROAD, b=39)


if __name__ == "__main__":
    unittest.main()
