"""Ways: what rows of steps they tell, and what is left of them behind a step."""

from webstore.values import is_name, is_number

MOST_TIMES = 6
OTHER_TURN = {"forth": "back", "back": "forth", "either": "either"}
EMPTY = ("empty",)


def is_way(thing):
    """Whether a thing is a way."""
    if not isinstance(thing, tuple) or len(thing) == 0:
        return False
    word = thing[0]
    parts = thing[1:]
    if word == "step":
        return len(parts) == 2 and (parts[0] is None or is_name(parts[0])) and parts[1] in ("forth", "back", "either")
    if word == "empty":
        return len(parts) == 0
    if word in ("then", "or"):
        return len(parts) == 2 and is_way(parts[0]) and is_way(parts[1])
    if word == "again":
        return len(parts) == 1 and is_way(parts[0])
    return word == "many" and len(parts) == 3 and are_times(parts[1], parts[2]) and is_way(parts[0])


def are_times(low, high):
    """Whether two things may bound how often a way is gone."""
    return is_number(low) and is_number(high) and 0 <= low <= high <= MOST_TIMES


def tells(way, steps):
    """Whether a way tells a row of steps."""
    return len(steps) in ends(way, steps, [0])


def ends(way, steps, starts):
    """The rising list of where in the row those rows of the way end that begin at one of starts, rising too.

    All starts are gone from at once: so each part of a way is looked at a few times, however the row may be parted.
    """
    word = way[0]
    if word == "step":
        return [at + 1 for at in starts if at < len(steps) and is_step_of(way, steps[at][0], steps[at][1])]
    if word == "empty":
        return starts
    if word == "then":
        return ends(way[2], steps, ends(way[1], steps, starts))
    if word == "or":
        return merged(ends(way[1], steps, starts), ends(way[2], steps, starts))
    if word == "again":
        return ends_again(way[1], steps, starts)
    return ends_many(way, steps, starts)


def ends_again(way, steps, starts):
    """Where any number of rows of a way end, none too."""
    found = starts
    fresh = starts
    while fresh:
        fresh = [at for at in ends(way, steps, fresh) if at not in found]
        found = merged(found, fresh)
    return found


def ends_many(way, steps, starts):
    """Where the rows of a many end."""
    found = []
    here = starts
    for times in range(way[3] + 1):
        if times >= way[2]:
            found = merged(found, here)
        here = ends(way[1], steps, here)
    return found


def merged(one, other):
    """The rising list of what is in one of two lists."""
    return sorted(set(one) | set(other))


def is_step_of(way, kind, turn):
    """Whether a single step is one that a way ("step", ..) tells."""
    return way[1] in (None, kind) and way[2] in ("either", turn)


def least_steps(way):
    """The least number of steps of a row that a way tells."""
    word = way[0]
    if word == "step":
        return 1
    if word == "then":
        return least_steps(way[1]) + least_steps(way[2])
    if word == "or":
        return min(least_steps(way[1]), least_steps(way[2]))
    if word == "many":
        return way[2] * least_steps(way[1])
    return 0


def turned(way):
    """A way that tells just the rows of a way gone the other way about."""
    word = way[0]
    if word == "step":
        return ("step", way[1], OTHER_TURN[way[2]])
    if word == "empty":
        return way
    if word == "then":
        return ("then", turned(way[2]), turned(way[1]))
    if word == "or":
        return ("or", turned(way[1]), turned(way[2]))
    return (word, turned(way[1])) + way[2:]


def is_endless(way):
    """Whether a way tells rows of more than any number of steps."""
    word = way[0]
    if word in ("then", "or"):
        # Each way tells some row, so what one part tells is never lost beside the other one.
        return is_endless(way[1]) or is_endless(way[2])
    if word == "again":
        return has_steps(way[1])
    return word == "many" and way[3] > 0 and is_endless(way[1])


def has_steps(way):
    """Whether a way tells a row with a step at least."""
    word = way[0]
    if word in ("then", "or"):
        return has_steps(way[1]) or has_steps(way[2])
    if word == "again":
        return has_steps(way[1])
    if word == "many":
        return way[3] > 0 and has_steps(way[1])
    return word == "step"


def rests(way, kind, turn):
    """The ways, no two alike, that tell what may stand behind this step in a row of the way."""
    word = way[0]
    if word == "step":
        return [EMPTY] if is_step_of(way, kind, turn) else []
    if word == "empty":
        return []
    if word == "or":
        return unlike(rests(way[1], kind, turn) + rests(way[2], kind, turn))
    if word == "then":
        found = followed(rests(way[1], kind, turn), way[2])
        if least_steps(way[1]) == 0:
            found = found + rests(way[2], kind, turn)
        return unlike(found)
    if word == "again":
        return followed(rests(way[1], kind, turn), way)
    return rests_of_many(way, kind, turn)


def rests_of_many(way, kind, turn):
    """The rests of a many: those of its first row that has steps, with one time fewer behind each."""
    inner, low, high = way[1:]
    if high == 0:
        return []
    # Rows without steps ahead of that first one may be counted behind it as well, so none needs to be passed over.
    left = EMPTY if high == 1 else ("many", inner, max(low - 1, 0), high - 1)
    return followed(rests(inner, kind, turn), left)


def followed(ways, tail):
    """These ways, each with a tail behind it."""
    return unlike([in_row(way, tail) for way in ways])


def in_row(way, tail):
    """A way and a tail behind it, always written from the right on, so that rests that mean the same look alike."""
    if way == EMPTY:
        return tail
    if tail == EMPTY:
        return way
    if way[0] == "then":
        return ("then", way[1], in_row(way[2], tail))
    return ("then", way, tail)


def unlike(ways):
    """These ways, each once."""
    found = []
    for way in ways:
        if way not in found:
            found.append(way)
    return found
