"""Dealings to try, and what the document's words say of them, found in another manner."""

import copy

from webstore.errors import NoPlace, NoTie, Tied
from webstore.store import Store, copied, rows_of


def state_of(store):
    """All that can be seen of a store, the numbers that come next too."""
    probe = copied(store)
    place = probe.add_place("p", {})
    return rows_of(store), place, probe.add_tie("a", place, place, {})


def small_store():
    """Places 0, 1, 3 of the kind p (2 is gone) with ties 0: 0 to 1, 2: 1 to 3 (1 is gone)."""
    store = Store()
    for fields in ({"u": 1}, {"u": 2, "v": "x"}, {}, {"v": "y"}):
        store.add_place("p", fields)
    store.take_place(2)
    for start, end in ((0, 1), (0, 3), (1, 3)):
        store.add_tie("a", start, end, {"w": start})
    store.take_tie(1)
    return store


def dealt_tried(store, deeds):
    """(what is told, the store behind) of deeds done one by one, or (place in the list, word) of the first refusal."""
    store = copy.deepcopy(store)
    places, ties, told = [], [], []
    for at, deed in enumerate(deeds):
        word, *parts = deed
        numbers = {"add_tie": (1, 2), "add_place": ()}.get(word, (0,))
        made = ties if word in ("take_tie", "set_tie") else places
        for part in numbers:
            if parts[part] < 0:
                # One that isn't made yet is none at all.
                parts[part] = made[-parts[part] - 1] if -parts[part] <= len(made) else 10 ** 9
        try:
            told.append(getattr(store, word)(*parts))
        except (NoPlace, NoTie, Tied) as error:
            return at, type(error).__name__
        if word == "add_place":
            places.append(told[-1])
        if word == "add_tie":
            ties.append(told[-1])
    return told, store


def random_deed(chance):
    """A deed on a small store, with numbers that are there, that aren't, and of what is made in the dealing."""
    def number():
        return chance.choice((0, 0, 1, 1, 2, 3, 3, 4, 5, -1, -1, -1, -2, -2, -3, 99))

    fields = {name: chance.choice((1, 2, "x")) for name in "uv" if chance.random() < 0.5}
    fields = fields if chance.random() < 0.5 else tuple(sorted(fields.items()))
    word = chance.choice(("add_place", "add_place", "add_place", "add_tie", "add_tie", "take_place", "take_tie",
                          "set_place", "set_tie"))
    if word == "add_place":
        return (word, chance.choice("pq"), fields)
    if word == "add_tie":
        return (word, chance.choice("ab"), number(), number(), fields)
    if word.startswith("take"):
        return (word, number())
    return (word, number(), chance.choice("uv"), chance.choice((None, 0, 5, "", "x")))


def likely_deed(chance, store):
    """A deed that a store of few places mostly takes: so ties, and rings of them, come and go."""
    places, ties = store.places(), store.ties()
    word = chance.choice(("add_place", "add_tie", "add_tie", "add_tie", "take_tie", "take_tie", "take_place", "set_place"))
    if word == "add_place" or not places:
        return ("add_place", chance.choice("ppq"), {"u": chance.randrange(3)})
    if word == "add_tie":
        return (word, chance.choice("ab"), chance.choice(places), chance.choice(places), {})
    if word == "take_tie":
        return (word, chance.choice(ties or [0]))
    if word == "take_place":
        return (word, chance.choice(places))
    return (word, chance.choice(places), "u", chance.choice((None, 0, 1, "x")))
