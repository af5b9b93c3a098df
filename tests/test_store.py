"""Points 5 and 6, and point 2 of them: the store, its rows, its copies."""

import random
import unittest

from making import same_kinds
from webstore.errors import NoPlace, NoTie, Tied
from webstore.store import Store, copied, rows_of

FAR = (-1, -2, -10 ** 12, 10 ** 12 - 1, 999)


def small_store():
    """Places 0, 1, 3 (2 is gone) and ties 0, 2, 3 (1 is gone)."""
    store = Store()
    for kind, fields in (("town", {"name": "x", "age": 3}), ("town", {}), ("hill", {"b": 1}), ("hill", {"h": 9})):
        store.add_place(kind, fields)
    store.add_tie("road", 0, 1, {"len": 5})
    store.add_tie("road", 1, 0, {})
    store.add_tie("path", 0, 3, {"b": 2, "a": "x"})
    store.add_tie("ring", 3, 3, {})
    store.take_place(2)
    store.take_tie(1)
    return store


SMALL_ROWS = (("place", 0, "town", (("age", 3), ("name", "x"))), ("place", 1, "town", ()),
              ("place", 3, "hill", (("h", 9),)), ("tie", 0, "road", 0, 1, (("len", 5),)),
              ("tie", 2, "path", 0, 3, (("a", "x"), ("b", 2))), ("tie", 3, "ring", 3, 3, ()))


class StoreCase(unittest.TestCase):
    def same(self, told, wanted):
        self.assertTrue(same_kinds(told, wanted), (told, wanted))

    def refused(self, error, store, deed, *args):
        """A deed is refused by this very class, and changes nothing, the numbers that come next neither."""
        rows, coming = rows_of(store), coming_numbers(store)
        with self.assertRaises(error) as taken:
            getattr(store, deed)(*args)
        self.assertIs(type(taken.exception), error)
        self.same(rows_of(store), rows)
        self.assertEqual(coming_numbers(store), coming)


def coming_numbers(store):
    """The numbers that come next, tried on a copy."""
    twin = copied(store)
    place = twin.add_place("x", {})
    return place, twin.add_tie("x", place, place, {})


class Making(StoreCase):
    def test_nothing_at_first(self):
        store = Store()
        self.same(store.places(), [])
        self.same(store.ties(), [])
        self.same(rows_of(store), ())
        self.refused(NoPlace, store, "place", 0)
        self.refused(NoTie, store, "tie", 0)

    def test_numbers_as_they_come(self):
        store = Store()
        self.same([store.add_place("a", {}) for _ in range(4)], [0, 1, 2, 3])
        self.same([store.add_tie("t", 0, 1, {}) for _ in range(4)], [0, 1, 2, 3])

    def test_no_number_twice(self):
        store = Store()
        for n in range(3):
            self.same(store.add_place("a", {}), n)
            store.take_place(n)
        self.same(store.add_place("a", {}), 3)
        for n in range(3):
            self.same(store.add_tie("a", 3, 3, {}), n)
            store.take_tie(n)
        self.same(store.add_tie("a", 3, 3, {}), 3)
        self.same(store.places(), [3])
        self.same(store.ties(), [3])

    def test_what_was_put_in_is_told(self):
        store = small_store()
        self.same(store.place(0), ("town", (("age", 3), ("name", "x"))))
        self.same(store.place(1), ("town", ()))
        self.same(store.tie(2), ("path", 0, 3, (("a", "x"), ("b", 2))))
        self.same(store.tie(3), ("ring", 3, 3, ()))
        self.same(store.places(), [0, 1, 3])
        self.same(store.ties(), [0, 2, 3])

    def test_out_of_and_into(self):
        store = small_store()
        self.same([store.out_of(n) for n in (0, 1, 3)], [[0, 2], [], [3]])
        self.same([store.into(n) for n in (0, 1, 3)], [[], [0], [2, 3]])

    def test_ties_alike_are_two(self):
        store = Store()
        store.add_place("a", {})
        store.add_place("a", {})
        self.same([store.add_tie("t", 1, 0, {"x": 1}) for _ in range(2)], [0, 1])
        self.same(store.out_of(1), [0, 1])
        self.same(store.into(0), [0, 1])
        store.take_tie(0)
        self.same(store.out_of(1), [1])

    def test_told_pairs_may_be_handed_in_again(self):
        store = small_store()
        new = store.add_place("town", store.place(0)[1])
        self.same(store.place(new), store.place(0))
        new = store.add_tie("path", 0, 3, store.tie(2)[3])
        self.same(store.tie(new), store.tie(2))


class Refusals(StoreCase):
    NO_PLACES = (2, 4) + FAR
    NO_TIES = (1, 4) + FAR

    def test_no_place(self):
        store = small_store()
        for n in self.NO_PLACES:
            self.refused(NoPlace, store, "take_place", n)
            self.refused(NoPlace, store, "set_place", n, "a", 1)
            self.refused(NoPlace, store, "set_place", n, "a", None)
            self.refused(NoPlace, store, "place", n)
            self.refused(NoPlace, store, "out_of", n)
            self.refused(NoPlace, store, "into", n)
            self.refused(NoPlace, store, "add_tie", "t", n, 0, {})
            self.refused(NoPlace, store, "add_tie", "t", 0, n, {})
            self.refused(NoPlace, store, "add_tie", "t", n, n, {"a": 1})

    def test_no_tie(self):
        store = small_store()
        for n in self.NO_TIES:
            self.refused(NoTie, store, "take_tie", n)
            self.refused(NoTie, store, "set_tie", n, "a", 1)
            self.refused(NoTie, store, "set_tie", n, "a", None)
            self.refused(NoTie, store, "tie", n)

    def test_tied(self):
        store = small_store()
        for n in (0, 1, 3):
            self.refused(Tied, store, "take_place", n)

    def test_tied_no_more(self):
        store = small_store()
        store.take_tie(3)
        self.refused(Tied, store, "take_place", 3)
        store.take_tie(2)
        self.assertIsNone(store.take_place(3))
        self.refused(NoPlace, store, "take_place", 3)
        store.take_tie(0)
        store.take_place(0)
        store.take_place(1)
        self.same(rows_of(store), ())
        self.assertEqual(coming_numbers(store), (4, 4))

    def test_one_tie_to_itself_ties(self):
        store = Store()
        store.add_place("a", {})
        store.add_tie("t", 0, 0, {})
        self.refused(Tied, store, "take_place", 0)
        store.take_tie(0)
        store.take_place(0)
        self.same(store.places(), [])

    def test_a_number_that_was(self):
        store = small_store()
        store.take_tie(0)
        store.take_place(1)
        for deed in ("take_place", "place", "out_of", "into"):
            self.refused(NoPlace, store, deed, 1)
        for deed in ("take_tie", "tie"):
            self.refused(NoTie, store, deed, 0)

    def test_start_is_told_ahead_of_end(self):
        store = small_store()
        with self.assertRaises(NoPlace) as taken:
            store.add_tie("t", 77, 88, {})
        self.assertIn("77", str(taken.exception))


class Fields(StoreCase):
    def test_set(self):
        store = small_store()
        store.set_place(0, "age", 4)
        store.set_place(0, "age", "old")
        store.set_place(0, "new", "")
        store.set_place(1, "zero", 0)
        self.same(store.place(0), ("town", (("age", "old"), ("name", "x"), ("new", ""))))
        self.same(store.place(1), ("town", (("zero", 0),)))
        store.set_tie(2, "b", "text")
        store.set_tie(2, "aa", -1)
        self.same(store.tie(2), ("path", 0, 3, (("a", "x"), ("aa", -1), ("b", "text"))))

    def test_set_to_none(self):
        store = small_store()
        store.set_place(0, "age", None)
        store.set_place(0, "never", None)
        store.set_place(1, "never", None)
        self.same(store.place(0), ("town", (("name", "x"),)))
        self.same(store.place(1), ("town", ()))
        store.set_tie(2, "a", None)
        store.set_tie(2, "a", None)
        store.set_tie(3, "never", None)
        self.same(store.tie(2), ("path", 0, 3, (("b", 2),)))
        self.same(store.tie(3), ("ring", 3, 3, ()))
        store.set_place(0, "age", 5)
        self.same(store.place(0), ("town", (("age", 5), ("name", "x"))))

    def test_nothing_is_told(self):
        store = small_store()
        self.assertIsNone(store.set_place(0, "a", 1))
        self.assertIsNone(store.set_tie(0, "a", 1))
        self.assertIsNone(store.set_place(0, "a", None))
        self.assertIsNone(store.set_tie(0, "a", None))
        self.assertIsNone(store.take_tie(0))
        self.assertIsNone(store.take_place(1))


class Own(StoreCase):
    """Point 2: what is told is the asker's own, and nothing that is handed in is changed or kept."""

    def test_told_lists_may_be_changed(self):
        store = small_store()
        for ask in (store.places, store.ties, lambda: store.out_of(0), lambda: store.into(3)):
            told = ask()
            before = list(told)
            again = ask()
            self.assertIsNot(told, again)
            told.append(99)
            told[0] = 77
            self.same(ask(), before)
            self.same(again, before)
        self.same(rows_of(store), SMALL_ROWS)

    def test_told_things_stay(self):
        store = small_store()
        place, tie, places = store.place(0), store.tie(2), store.places()
        store.set_place(0, "age", 9)
        store.set_tie(2, "a", None)
        store.add_place("x", {})
        self.same(place, ("town", (("age", 3), ("name", "x"))))
        self.same(tie, ("path", 0, 3, (("a", "x"), ("b", 2))))
        self.same(places, [0, 1, 3])

    def test_a_dict_that_is_handed_in(self):
        store = Store()
        fields = {"b": 1, "a": "x"}
        store.add_place("k", fields)
        store.add_tie("t", 0, 0, fields)
        store.set_place(0, "b", 7)
        store.set_tie(0, "b", None)
        self.assertEqual(list(fields.items()), [("b", 1), ("a", "x")])
        fields["a"] = "y"
        del fields["b"]
        self.same(store.place(0), ("k", (("a", "x"), ("b", 7))))
        self.same(store.tie(0), ("t", 0, 0, (("a", "x"),)))

    def test_one_dict_handed_to_two_stores(self):
        one, other = Store(), Store()
        fields = {"a": 1}
        one.add_place("k", fields)
        other.add_place("k", fields)
        one.add_place("k", fields)
        one.set_place(0, "a", 2)
        one.add_tie("t", 0, 1, fields)
        self.same(rows_of(other), (("place", 0, "k", (("a", 1),)),))
        self.same(one.place(1), ("k", (("a", 1),)))
        self.same(other.add_place("k", {}), 1)
        self.same(other.ties(), [])
        self.same(fields, {"a": 1})

    def test_asked_again_the_same(self):
        store = small_store()
        self.same(rows_of(store), rows_of(store))
        for n in store.places():
            self.same((store.place(n), store.out_of(n), store.into(n)), (store.place(n), store.out_of(n), store.into(n)))


class Rows(StoreCase):
    def test_empty(self):
        self.same(rows_of(Store()), ())

    def test_holes_in_the_numbers(self):
        self.same(rows_of(small_store()), SMALL_ROWS)

    def test_rising_beyond_ten(self):
        store = Store()
        for _ in range(12):
            store.add_place("a", {})
        for n in range(12):
            store.add_tie("t", 11 - n, n, {})
        rows = rows_of(store)
        self.assertEqual([row[:2] for row in rows], [("place", n) for n in range(12)] + [("tie", n) for n in range(12)])


class Copies(StoreCase):
    def test_the_same_in_all(self):
        store = small_store()
        twin = copied(store)
        self.assertIsNot(twin, store)
        self.assertIsInstance(twin, Store)
        self.same(rows_of(twin), SMALL_ROWS)
        self.same(twin.add_place("x", {}), 4)
        self.same(twin.add_tie("x", 4, 0, {}), 4)

    def test_of_an_empty_store(self):
        twin = copied(Store())
        self.same(rows_of(twin), ())
        self.assertEqual(coming_numbers(twin), (0, 0))

    def test_deeds_on_both(self):
        store = small_store()
        twin = copied(store)
        store.set_place(0, "age", 8)
        store.take_tie(0)
        store.add_place("x", {})
        self.same(rows_of(twin), SMALL_ROWS)
        rows = rows_of(store)
        twin.set_place(1, "a", 1)
        twin.set_tie(0, "len", None)
        twin.take_tie(3)
        self.same(rows_of(store), rows)
        self.same(twin.add_place("y", {}), 4)
        self.same(twin.tie(0), ("road", 0, 1, ()))

    def test_the_last_ones_made_were_taken(self):
        store = small_store()
        store.take_place(store.add_place("x", {}))
        store.take_tie(store.add_tie("x", 0, 0, {}))
        twin = copied(store)
        for each in (twin, store):
            self.same(each.add_place("x", {}), 5)
            self.same(each.add_tie("x", 5, 5, {}), 5)
        emptied = Store()
        emptied.take_place(emptied.add_place("x", {}))
        self.same(copied(emptied).add_place("x", {}), 1)

    def test_a_copy_of_a_copy(self):
        store = small_store()
        twin = copied(copied(store))
        store.take_tie(0)
        self.same(rows_of(twin), SMALL_ROWS)


class Model:
    """A store kept another way: two lists, with None where something is gone."""

    def __init__(self):
        self.places, self.ties = [], []

    def rows(self):
        """What rows_of must tell."""
        told = [("place", n, kind, tuple(sorted(fields.items())))
                for n, (kind, fields) in self.there(self.places)]
        told += [("tie", n, kind, start, end, tuple(sorted(fields.items())))
                 for n, (kind, start, end, fields) in self.there(self.ties)]
        return tuple(told)

    def there(self, rows):
        return [(n, row) for n, row in enumerate(rows) if row is not None]

    def has_place(self, n):
        return 0 <= n < len(self.places) and self.places[n] is not None

    def do(self, deed, args):
        """What a deed must tell, or the class by which it must be refused."""
        if deed == "add_place":
            self.places.append((args[0], dict(args[1])))
            return len(self.places) - 1
        if deed == "add_tie":
            if not self.has_place(args[1]) or not self.has_place(args[2]):
                return NoPlace
            self.ties.append((args[0], args[1], args[2], dict(args[3])))
            return len(self.ties) - 1
        rows, error = (self.places, NoPlace) if deed.endswith("place") else (self.ties, NoTie)
        n = args[0]
        if not 0 <= n < len(rows) or rows[n] is None:
            return error
        if deed == "take_place" and any(n in row[1:3] for _, row in self.there(self.ties)):
            return Tied
        if deed.startswith("take"):
            rows[n] = None
        elif args[2] is None:
            rows[n][-1].pop(args[1], None)
        else:
            rows[n][-1][args[1]] = args[2]
        return None


def random_deed(chance):
    """A deed and what is handed to it."""
    n, m = chance.randrange(-1, 9), chance.randrange(-1, 9)
    fields = {name: chance.choice((0, 5, "", "x")) for name in "abc" if chance.random() < 0.4}
    deed = chance.choice(("add_place", "add_tie", "take_place", "take_tie", "set_place", "set_tie"))
    if deed == "add_place":
        return deed, (chance.choice("kl"), fields)
    if deed == "add_tie":
        return deed, (chance.choice("st"), n, m, fields)
    if deed.startswith("take"):
        return deed, (n,)
    return deed, (n, chance.choice("abc"), chance.choice((None, 1, "y")))


class AgainstModel(StoreCase):
    def test_random_deeds(self):
        chance = random.Random(6)
        for _ in range(120):
            store, model = Store(), Model()
            for _ in range(60):
                deed, args = random_deed(chance)
                wanted = model.do(deed, args)
                if isinstance(wanted, type):
                    self.refused(wanted, store, deed, *args)
                else:
                    self.same(getattr(store, deed)(*args), wanted)
                self.same(rows_of(store), model.rows())
                if chance.random() < 0.1:
                    store = copied(store)


if __name__ == "__main__":
    unittest.main()
