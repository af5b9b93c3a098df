"""Patterns: their form, and what their spots and pairs ask of places."""

from webstore.fitting import compares, fits, is_test
from webstore.values import is_name, is_number
from webstore.ways import is_way

BOW_SORTS = ("all", "short", "plain", "any")


def is_pattern(thing):
    """Whether a thing is a pattern: a tuple (spots, bows, pairs)."""
    if not isinstance(thing, tuple) or len(thing) != 3:
        return False
    spots, bows, pairs = thing
    if not isinstance(spots, tuple) or not isinstance(bows, tuple) or not isinstance(pairs, tuple):
        return False
    if len(spots) == 0 or not all([is_spot(spot) for spot in spots]):
        return False
    return all([is_bow(bow, len(spots)) for bow in bows]) and all([is_pair(pair, len(spots)) for pair in pairs])


def is_spot(thing):
    """Whether a thing is a spot: (kind or None, test)."""
    if not isinstance(thing, tuple) or len(thing) != 2:
        return False
    return (thing[0] is None or is_name(thing[0])) and is_test(thing[1])


def is_bow(thing, many):
    """Whether a thing is a bow between two of so many spots: (i, j, sort, way)."""
    if not isinstance(thing, tuple) or len(thing) != 4:
        return False
    i, j, sort, way = thing
    return is_spot_number(i, many) and is_spot_number(j, many) and sort in BOW_SORTS and is_way(way)


def is_pair(thing, many):
    """Whether a thing is a pair of two of so many spots."""
    if not isinstance(thing, tuple) or len(thing) == 0:
        return False
    if thing[0] == "unlike":
        return len(thing) == 3 and is_spot_number(thing[1], many) and is_spot_number(thing[2], many)
    if thing[0] not in ("same", "under") or len(thing) != 5:
        return False
    word, i, name, j, other = thing
    return is_spot_number(i, many) and is_name(name) and is_spot_number(j, many) and is_name(other)


def is_spot_number(thing, many):
    """Whether a thing is the number of one of so many spots."""
    return is_number(thing) and 0 <= thing < many


def stands(store, spots, thing):
    """Whether a thing is a row with a place for each spot, each of its spot."""
    if not isinstance(thing, (list, tuple)) or len(thing) != len(spots):
        return False
    return all([is_number(place) and place in store.places() and is_of_spot(store, spot, place)
                for spot, place in zip(spots, thing)])


def is_of_spot(store, spot, place):
    """Whether a place of the store is of a spot."""
    kind, fields = store.place(place)
    return spot[0] in (None, kind) and fits(spot[1], fields)


def spots_of(pair):
    """The numbers of the two spots of a pair."""
    return (pair[1], pair[2]) if pair[0] == "unlike" else (pair[1], pair[3])


def is_so(store, pair, one, other):
    """Whether a pair is so of the places at its two spots."""
    if pair[0] == "unlike":
        return one != other
    value = dict(store.place(one)[1]).get(pair[2])
    bound = dict(store.place(other)[1]).get(pair[4])
    if value is None or bound is None:
        return False
    return compares("is" if pair[0] == "same" else "under", value, bound)
