"""Rules that a store keeps to, and what breaks them."""

from webstore.asking import first_row
from webstore.patterns import is_pattern
from webstore.values import is_name, is_number
from webstore.walks import Maze
from webstore.ways import is_way

SORTS = ("number", "text")
TURNS = ("forth", "back")


def is_rule(thing):
    """Whether a thing is a rule."""
    if not isinstance(thing, tuple) or len(thing) < 3 or not is_name(thing[1]):
        return False
    word = thing[0]
    parts = thing[2:]
    if word == "never":
        return len(parts) == 1 and is_pattern(parts[0])
    if word == "ringless":
        return len(parts) == 1 and is_way(parts[0])
    if word == "field":
        return len(parts) == 3 and are_names(parts[:2]) and parts[2] in SORTS
    if word == "ends":
        return len(parts) == 3 and are_names(parts)
    if word == "alone":
        return len(parts) == 2 and are_names(parts)
    return word == "many" and len(parts) == 5 and are_names(parts[:2]) and parts[2] in TURNS and are_bounds(parts[3:])


def are_names(things):
    """Whether all these things are NAMEs."""
    return all([is_name(thing) for thing in things])


def are_bounds(things):
    """Whether two things are numbers from nought on, the first one not above the second one."""
    low, high = things
    return is_number(low) and is_number(high) and 0 <= low <= high


def breach(store, rule):
    """None where a rule holds, else the first that breaks it."""
    word = rule[0]
    if word == "never":
        row = first_row(store, rule[2])
        return None if row is None else ("row", row)
    if word == "ends":
        return first_of("tie", [tie for tie in store.ties() if has_wrong_ends(store, rule, tie)])
    if word == "ringless":
        return first_of("place", ring_places(store, rule[2]))
    places = [place for place in store.places() if store.place(place)[0] == rule[2]]
    if word == "field":
        return first_of("place", [place for place in places if lacks_field(store, rule, place)])
    if word == "alone":
        return first_of("place", with_value_again(store, rule, places))
    return first_of("place", [place for place in places if has_wrong_many(store, rule, place)])


def first_of(word, numbers):
    """What is told of the first of those that break a rule; None where none does."""
    return (word, numbers[0]) if numbers else None


def has_wrong_ends(store, rule, tie):
    """Whether a tie is one of an ends' kind, but not between places of its two kinds."""
    kind, start, end = store.tie(tie)[:3]
    return kind == rule[2] and (store.place(start)[0], store.place(end)[0]) != rule[3:]


def lacks_field(store, rule, place):
    """Whether a place hasn't a field's field, or with a value of the other sort."""
    value = dict(store.place(place)[1]).get(rule[3])
    return not (is_number(value) if rule[4] == "number" else isinstance(value, str))


def with_value_again(store, rule, places):
    """Of rising places those that have the same value in an alone's field as one ahead of them."""
    seen = set()
    found = []
    for place in places:
        value = dict(store.place(place)[1]).get(rule[3])
        if value is not None and value in seen:
            found.append(place)
        seen.add(value)
    return found


def has_wrong_many(store, rule, place):
    """Whether at a place fewer or more ties of a many's kind begin, or end, than it lets."""
    ties, turn, low, high = rule[3:]
    around = store.out_of(place) if turn == "forth" else store.into(place)
    return not low <= len([tie for tie in around if store.tie(tie)[0] == ties]) <= high


def ring_places(store, way):
    """The rising list of the places from which a walk of the way, with a leg at least, leads to the place itself."""
    maze = Maze(store, way, store.places())
    return [place for place in store.places() if is_on_ring(maze, place)]


def is_on_ring(maze, place):
    """Whether some leg from a place is the first of a walk that ends there again."""
    left = maze.left_to(place, maze.legs)
    return any([ahead in left for leg, ahead in maze.onward[(place, maze.first)]])
