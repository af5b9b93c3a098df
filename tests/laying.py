"""Stores and patterns to try, and what the document's words say of rows that lay a pattern, found by trying all."""

import itertools

from making import random_way
from trying import is_plain, store_of, walks_tried
from webstore.counting import how_many
from webstore.errors import Endless, NoWalk
from webstore.fitting import fits
from webstore.plainwalks import plain_walks
from webstore.shortest import shortest
from webstore.store import Store
from webstore.walks import reached

SORTS = ("all", "short", "plain", "any")
SPOT = (None, ("any",))
TESTS = (("any",), ("any",), ("has", "u"), ("is", "u", 1), ("under", "v", 2), ("over", "v", "a"), ("not", ("has", "v")))


def town_store():
    """Places 0, 1, 3 of the kind p, 4, 5 of the kind q (2 is gone), with fields u and v; 1 has two ties to 3."""
    store = Store()
    for kind, fields in (("p", {"u": 1, "v": "x"}), ("p", {"u": 2}), ("p", {}), ("p", {"u": 1, "v": 5}),
                         ("q", {"v": "x"}), ("q", {"u": "x", "v": 1})):
        store.add_place(kind, fields)
    store.take_place(2)
    for kind, start, end in (("a", 0, 1), ("a", 1, 3), ("a", 1, 3), ("b", 3, 4), ("b", 4, 5), ("a", 0, 5)):
        store.add_tie(kind, start, end, {})
    return store


def lone_store(many):
    """So many places of the kind p without ties, each with its number as the field n."""
    store = Store()
    for n in range(many):
        store.add_place("p", {"n": n})
    return store


def random_field_store(chance, most=6):
    """A store with kinds and fields, and maybe a hole in its numbers."""
    store = Store()
    for _ in range(chance.randrange(1, most)):
        fields = {name: chance.choice((0, 1, 2, "x", "y")) for name in ("u", "v") if chance.random() < 0.7}
        store.add_place(chance.choice("ppq"), fields)
    if len(store.places()) > 2 and chance.random() < 0.3:
        store.take_place(0)
    for _ in range(chance.randrange(2 * most - 2)):
        store.add_tie(chance.choice("ab"), chance.choice(store.places()), chance.choice(store.places()), {})
    return store


def random_pair(chance, spots):
    i, j = chance.randrange(spots), chance.randrange(spots)
    if chance.random() < 0.4:
        return ("unlike", i, j)
    return (chance.choice(("same", "under")), i, chance.choice("uv"), j, chance.choice("uv"))


def random_pattern(chance, spots, bows, pairs, size=4):
    """A pattern of so many spots, bows and pairs, its ways of at most so many tuples."""
    return (tuple((chance.choice((None, None, "p", "q")), chance.choice(TESTS)) for _ in range(spots)),
            tuple((chance.randrange(spots), chance.randrange(spots), chance.choice(SORTS),
                   random_way(chance, chance.randrange(1, size + 1), most=3)) for _ in range(bows)),
            tuple(random_pair(chance, spots) for _ in range(pairs)))


def bow_count(store, bow, a, b):
    """The count of a bow, by what other parts of the program tell; None without an end."""
    sort, way = bow[2:]
    try:
        if sort == "all":
            return how_many(store, way, a, b)
        if sort == "short":
            return len(shortest(store, way, a, b)[1])
    except NoWalk:
        return 0
    except Endless:
        return None
    return len(plain_walks(store, way, a, b)) if sort == "plain" else int(b in reached(store, way, a))


def pair_so(store, pair, row):
    if pair[0] == "unlike":
        return row[pair[1]] != row[pair[2]]
    one, other = [dict(store.place(row[i])[1]) for i in (pair[1], pair[3])]
    if pair[2] not in one or pair[4] not in other:
        return False
    value, bound = one[pair[2]], other[pair[4]]
    if pair[0] == "same":
        return value == bound
    return type(value) is type(bound) and value < bound


def count_tried(store, pattern, row):
    """The count of a row of places, by the words of the document; None without an end."""
    for (kind, test), place in zip(pattern[0], row):
        if kind not in (None, store.place(place)[0]) or not fits(test, store.place(place)[1]):
            return 0
    if not all(pair_so(store, pair, row) for pair in pattern[2]):
        return 0
    counts = [bow_count(store, bow, row[bow[0]], row[bow[1]]) for bow in pattern[1]]
    if 0 in counts:
        return 0
    product = 1
    for count in counts:
        product = None if count is None or product is None else product * count
    return product


def rows_tried(store, pattern):
    """The rising list of (row, count) of all rows that lay a pattern, by trying all."""
    rows = itertools.product(store.places(), repeat=len(pattern[0]))
    counted = [(row, count_tried(store, pattern, row)) for row in rows]
    return [(row, count) for row, count in counted if count != 0]


def walk_counts(store, bow, a, b, walk):
    """Whether a walk of few legs counts for a bow, by trying all walks of as many legs."""
    walks = walks_tried(store, bow[3], a, b, len(walk))
    if tuple(walk) not in walks:
        return False
    if bow[2] == "short":
        return len(walks[0]) == len(walk)
    return bow[2] != "plain" or is_plain(store, a, walk)


def ladder_of(many):
    """So many places in a line, and one tie forth from each to each that stands behind it."""
    return store_of(many, [("a", low, high) for low in range(many) for high in range(low + 1, many)])


