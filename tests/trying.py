"""Stores to try things in, and what the document's words say of walks, found by trying all."""

from making import same_kinds
from webstore.store import Store, rows_of
from webstore.walks import legs_at
from webstore.ways import tells

AF = ("step", "a", "forth")
BF = ("step", "b", "forth")
AB = ("step", "a", "back")
ANY = ("step", None, "either")
FORTH = ("step", None, "forth")
EMPTY = ("empty",)
STAR = ("again", ANY)
ROAD = ("again", FORTH)


def store_of(places, ties):
    """A store of so many places of the kind p, with ties (kind, start, end)."""
    store = Store()
    for _ in range(places):
        store.add_place("p", {})
    for kind, start, end in ties:
        store.add_tie(kind, start, end, {})
    return store


def line_of(*many):
    """Places in a line, so many ties of the kind a from each to the next."""
    ties = [("a", at, at + 1) for at, count in enumerate(many) for _ in range(count)]
    return store_of(len(many) + 1, ties)


def rising(walks):
    """Walks in their order."""
    return sorted(walks, key=lambda walk: (len(walk), walk))


def places_on(store, a, walk):
    """All places that a walk from a comes to, a first."""
    places = [a]
    for number, turn in walk:
        kind, start, end, fields = store.tie(number)
        places.append(end if turn == "forth" else start)
    return places


def steps_of(store, walk):
    return [(store.tie(number)[0], turn) for number, turn in walk]


def rows_of_legs(store, a, most):
    """All rows of at most so many legs that lead on from a, each with its end; None where they are far too many."""
    rows = found = [((), a)]
    for _ in range(most):
        rows = [(row + ((tie, turn),), end) for row, here in rows for tie, turn, end in legs_at(store, here)]
        found = found + rows
        if len(found) > 4000:
            return None
    return found


def walks_tried(store, way, a, b, most):
    """The rising list of all walks of at most so many legs, by trying all rows of legs; None where too many."""
    rows = rows_of_legs(store, a, most)
    if rows is None:
        return None
    return rising([row for row, end in rows if end == b and tells(way, steps_of(store, row))])


def is_plain(store, a, walk):
    places = places_on(store, a, walk)
    return len(set(places)) == len(places)


def lists_in(thing):
    """All lists in a told thing."""
    found = [thing] if isinstance(thing, list) else []
    if isinstance(thing, (list, tuple)):
        for part in thing:
            found += lists_in(part)
    return found


def check_own(case, store, ask):
    """What is told is the asker's own: spoiling it changes nothing that is told later, and nothing in the store."""
    rows = rows_of(store)
    first, second = ask(), ask()
    case.assertTrue(same_kinds(first, second))
    kept = repr(first)
    mine = lists_in(first) + lists_in(second)
    case.assertEqual(len(mine), len({id(each) for each in mine}))
    for each in lists_in(first):
        each.append("spoiled")
        each.reverse()
    case.assertEqual(repr(second), kept)
    case.assertEqual(repr(ask()), kept)
    case.assertTrue(same_kinds(rows_of(store), rows))
    return second
