"""The checker of fences and of levels: it looks at the papers alone, not at how they were found."""

from webstore.restbook import Restbook
from webstore.values import is_number
from webstore.walks import is_walk, legs_with_kinds, need_ends
from webstore.ways import is_way


def shows_fence(store, way, a, b, told):
    """Whether told is ("walk", walk) or ("fence", pairs) as fence may tell it."""
    need_ends(store, a, b)
    if not isinstance(told, (list, tuple)) or len(told) != 2:
        return False
    if told[0] == "walk":
        return is_walk(store, way, a, b, told[1])
    return told[0] == "fence" and is_fence(store, way, a, b, told[1])


def is_fence(store, way, a, b, thing):
    """Whether a thing is pairs, closed under all legs, with the start in and the end out."""
    if not are_pairs(store, thing):
        return False
    book = Restbook()
    pairs = numbered(book, thing)
    known = {pair: True for pair in pairs}
    if (a, book.number_of(way)) not in known or some_end(book, pairs, b):
        return False
    return lead_into(store, book, pairs, known)


def shows_levels(store, way, a, b, told):
    """Whether told is lists of pairs as levels may tell them, of any number of them."""
    need_ends(store, a, b)
    if not isinstance(told, (list, tuple)) or not all([are_pairs(store, level) for level in told]):
        return False
    book = Restbook()
    levels = [numbered(book, level) for level in told]
    if levels and (a, book.number_of(way)) not in levels[0]:
        return False
    if any([some_end(book, level, b) for level in levels]):
        return False
    known = {pair: True for level in levels[:1] for pair in level}
    for level, further in zip(levels, levels[1:]):
        for pair in further:
            known[pair] = True
        if not lead_into(store, book, level, known):
            return False
    return True


def are_pairs(store, thing):
    """Whether a thing is a list of pairs (place of the store, way)."""
    return isinstance(thing, (list, tuple)) and all([is_pair(store, pair) for pair in thing])


def is_pair(store, thing):
    """Whether a thing is a pair (place of the store, way)."""
    if not isinstance(thing, (list, tuple)) or len(thing) != 2:
        return False
    return is_number(thing[0]) and thing[0] in store.places() and is_way(thing[1])


def numbered(book, pairs):
    """The pairs, each way by its number."""
    return [(place, book.number_of(way)) for place, way in pairs]


def some_end(book, pairs, b):
    """Whether one of the pairs is of b and of a way that tells the row without steps."""
    return any([place == b and book.may_end(number) for place, number in pairs])


def lead_into(store, book, pairs, known):
    """Whether all that comes of these pairs by one leg is known."""
    for place, number in pairs:
        for leg, kind, end in legs_with_kinds(store, place):
            for rest in book.rests_of(number, kind, leg[1]):
                if (end, rest) not in known:
                    return False
    return True
