"""Walks of a way, what they reach, and the fence round it."""

from webstore.restbook import Restbook, trail
from webstore.values import is_number
from webstore.ways import tells


def legs_at(store, place):
    """The rising list of (tie, turn, place that it leads to) of all legs from a place."""
    forth = [(tie, "forth", store.tie(tie)[2]) for tie in store.out_of(place)]
    back = [(tie, "back", store.tie(tie)[1]) for tie in store.into(place)]
    return sorted(forth + back)


def need_ends(store, a, b):
    """Refuses two numbers of which one is none of a place."""
    store.need_place(a)
    store.need_place(b)


def is_walk(store, way, a, b, walk):
    """Whether a thing is a walk of the way from a to b."""
    need_ends(store, a, b)
    if not isinstance(walk, (list, tuple)):
        return False
    here = a
    steps = []
    for leg in walk:
        if not is_leg(store, leg):
            return False
        kind, begin, end = gone(store, leg)
        if begin != here:
            return False
        steps.append((kind, leg[1]))
        here = end
    return here == b and tells(way, steps)


def is_leg(store, thing):
    """Whether a thing is a leg of the store."""
    if not isinstance(thing, tuple) or len(thing) != 2 or thing[1] not in ("forth", "back"):
        return False
    return is_number(thing[0]) and thing[0] in store.ties()


def gone(store, leg):
    """A leg's kind, and the places where it begins and ends."""
    tie, turn = leg
    kind, start, end = store.tie(tie)[:3]
    return (kind, start, end) if turn == "forth" else (kind, end, start)


def spread(store, book, way, a):
    """All pairs (place, number of a rest) that come of a and the way, in the order of the fewest legs.

    Told is a dict from each pair to (the pair ahead of it, the leg between), None of the first one.
    """
    legs = {place: legs_with_kinds(store, place) for place in store.places()}
    start = (a, book.number_of(way))
    came = {start: None}
    queue = [start]
    at = 0
    while at < len(queue):
        place, number = queue[at]
        for leg, kind, end in legs[place]:
            for rest in book.rests_of(number, kind, leg[1]):
                if (end, rest) not in came:
                    came[(end, rest)] = ((place, number), leg)
                    queue.append((end, rest))
        at += 1
    return came


def legs_with_kinds(store, place):
    """The legs from a place, each as (leg, kind of the tie, place that it leads to)."""
    return [((tie, turn), store.tie(tie)[0], end) for tie, turn, end in legs_at(store, place)]


def reached(store, way, a):
    """The rising list of all places to which a walk of the way leads from a."""
    store.need_place(a)
    book = Restbook()
    came = spread(store, book, way, a)
    return sorted({place for place, number in came if book.may_end(number)})


def fence(store, way, a, b):
    """("walk", walk) of a walk of the way from a to b, or ("fence", pairs) where there is none."""
    need_ends(store, a, b)
    book = Restbook()
    came = spread(store, book, way, a)
    for pair in came:
        if pair[0] == b and book.may_end(pair[1]):
            return ("walk", trail(came, pair))
    return ("fence", [(place, book.way_of(number)) for place, number in came])
