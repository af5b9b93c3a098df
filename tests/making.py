"""What several test files need: odd things to ask of, and ways to spoil a right one."""

import random

WORDS = ("any", "has", "is", "under", "over", "both", "either", "not",
         "step", "empty", "then", "or", "again", "many", "forth", "back",
         "walk", "fence", "a", "name", "", "B", "abcdefghi")

ATOMS = (0, 1, -1, 2, 3, 6, 7, 10 ** 13, True, False, None) + WORDS


def nested(thing, deep, make):
    """A thing within so many more tuples or lists."""
    for _ in range(deep):
        thing = make([thing])
    return thing


def odd_thing(chance, deep):
    """A thing made of numbers, True, False, None, texts, tuples and lists."""
    if deep == 0 or chance.random() < 0.3:
        return chance.choice(ATOMS)
    parts = [odd_thing(chance, deep - 1) for _ in range(chance.randrange(5))]
    if parts and chance.random() < 0.5:
        parts[0] = chance.choice(WORDS)
    return chance.choice((tuple, tuple, list))(parts)


def odd_things():
    """Many such things, always the same, up to fifteen deep."""
    things = list(ATOMS) + [(), [], ((),), [[]], ([],), "ab", "a b"]
    for atom in ATOMS:
        for deep in (1, 2, 15):
            things.append(nested(atom, deep, tuple))
            things.append(nested(atom, deep, list))
    chance = random.Random(5)
    for count in range(3000):
        things.append(odd_thing(chance, 1 + count % 15))
    return things


def spoiled(thing):
    """Copies of a tuple of tuples, each with one thing in it, at any depth, made another one.

    A part too few, a part too many, another word, a list for a tuple, True for a number.
    """
    if not isinstance(thing, tuple):
        return []
    found = [list(thing), thing + (None,), thing + ("a",), thing + (thing,)]
    found += [thing[:at] + thing[at + 1:] for at in range(len(thing))]
    for at, part in enumerate(thing):
        others = spoiled(part) + [True, False, None, [], (), "unknown", "Ab", "", -1, 7, [part], (part,)]
        found += [thing[:at] + (other,) + thing[at + 1:] for other in others]
    return found


def is_number(thing):
    """Whether a thing is a number, and not True or False."""
    return isinstance(thing, int) and thing is not True and thing is not False


def same_kinds(one, other):
    """Whether two things are the same in all, tuples told from lists and numbers from True and False."""
    if type(one) is not type(other):
        return False
    if isinstance(one, (list, tuple)):
        return len(one) == len(other) and all(map(same_kinds, one, other))
    return one == other


def random_way(chance, size, deep=2, most=6, kinds=("a", "b", None)):
    """A way of so many tuples or a few less, with again and many at most so deep, many up to most."""
    if size <= 1 or (size == 2 and deep == 0):
        if chance.random() < 0.12:
            return ("empty",)
        return ("step", chance.choice(kinds), chance.choice(("forth", "back", "either")))
    if size == 2 or (deep > 0 and chance.random() < 0.4):
        inner = random_way(chance, size - 1, deep - 1, most, kinds)
        if chance.random() < 0.5:
            return ("again", inner)
        low = chance.randrange(most + 1)
        return ("many", inner, low, chance.randrange(low, most + 1))
    left = chance.randrange(1, size - 1)
    parts = [random_way(chance, part, deep, most, kinds) for part in (left, size - 1 - left)]
    return (chance.choice(("then", "or")), *parts)


def all_steps(kinds):
    """All steps of these kinds."""
    return [(kind, turn) for kind in kinds for turn in ("forth", "back")]


def all_rows(kinds, most):
    """All rows of at most so many steps of these kinds, shorter ones first."""
    rows = found = [()]
    for _ in range(most):
        rows = [row + (step,) for row in rows for step in all_steps(kinds)]
        found = found + rows
    return found


def rows_told(way, kinds, most):
    """The set of all rows of at most so many steps of these kinds that a way tells, by the words of the document."""
    word = way[0]
    if word == "step":
        return {(step,) for step in all_steps(kinds)
                if way[1] in (None, step[0]) and way[2] in ("either", step[1]) and most > 0}
    if word == "empty":
        return {()}
    if word == "or":
        return rows_told(way[1], kinds, most) | rows_told(way[2], kinds, most)
    if word == "then":
        return one_behind_other(rows_told(way[1], kinds, most), rows_told(way[2], kinds, most), most)
    low, high = (0, most) if word == "again" else way[2:]
    inner = rows_told(way[1], kinds, most)
    rows, found = {()}, set()
    for times in range(high + 1):
        if times >= low:
            found |= rows
        rows = one_behind_other(rows, inner, most)
    return found


def one_behind_other(ones, others, most):
    """All rows of at most so many steps that are one of ones and behind it one of others."""
    return {one + other for one in ones for other in others if len(one) + len(other) <= most}


def row_by_chance(chance, way, kinds):
    """A row of steps that a way tells."""
    word = way[0]
    if word == "step":
        turn = way[2] if way[2] != "either" else chance.choice(("forth", "back"))
        return ((way[1] or chance.choice(kinds), turn),)
    if word == "empty":
        return ()
    if word == "or":
        return row_by_chance(chance, chance.choice(way[1:]), kinds)
    if word == "then":
        return row_by_chance(chance, way[1], kinds) + row_by_chance(chance, way[2], kinds)
    low, high = (0, 7) if word == "again" else way[2:]
    row = ()
    for _ in range(chance.randrange(low, high + 1)):
        row += row_by_chance(chance, way[1], kinds)
    return row


def tuples_in(way):
    """How many tuples a way has."""
    return 1 + sum(tuples_in(part) for part in way if isinstance(part, tuple))
