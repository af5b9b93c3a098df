"""What several test files need: odd things to ask of, and ways to spoil a right one."""

import random

WORDS = ("any", "has", "is", "under", "over", "both", "either", "not",
         "step", "empty", "then", "or", "again", "many", "forth", "back",
         "walk", "fence", "a", "name", "", "B", "abcdefghi")

ATOMS = (0, 1, -1, 2, 3, 6, 7, 10 ** 13, True, False, None) + WORDS


def nested(thing, deep, make):
    """A thing within so many more tuples or lists."""
    for _ in range(deep):
        thing = make([thing])
    return thing


def odd_thing(chance, deep):
    """A thing made of numbers, True, False, None, texts, tuples and lists."""
    if deep == 0 or chance.random() < 0.3:
        return chance.choice(ATOMS)
    parts = [odd_thing(chance, deep - 1) for _ in range(chance.randrange(5))]
    if parts and chance.random() < 0.5:
        parts[0] = chance.choice(WORDS)
    return chance.choice((tuple, tuple, list))(parts)


def odd_things():
    """Many such things, always the same, up to fifteen deep."""
    things = list(ATOMS) + [(), [], ((),), [[]], ([],), "ab", "a b"]
    for atom in ATOMS:
        for deep in (1, 2, 15):
            things.append(nested(atom, deep, tuple))
            things.append(nested(atom, deep, list))
    chance = random.Random(5)
    for count in range(3000):
        things.append(odd_thing(chance, 1 + count % 15))
    return things


def spoiled(thing):
    """Copies of a tuple of tuples, each with one thing in it, at any depth, made another one.

    A part too few, a part too many, another word, a list for a tuple, True for a number.
    """
    if not isinstance(thing, tuple):
        return []
    found = [list(thing), thing + (None,), thing + ("a",), thing + (thing,)]
    found += [thing[:at] + thing[at + 1:] for at in range(len(thing))]
    for at, part in enumerate(thing):
        others = spoiled(part) + [True, False, None, [], (), "unknown", "Ab", "", -1, 7, [part], (part,)]
        found += [thing[:at] + (other,) + thing[at + 1:] for other in others]
    return found


def is_number(thing):
    """Whether a thing is a number, and not True or False."""
    return isinstance(thing, int) and thing is not True and thing is not False


def same_kinds(one, other):
    """Whether two things are the same in all, tuples told from lists and numbers from True and False."""
    if type(one) is not type(other):
        return False
    if isinstance(one, (list, tuple)):
        return len(one) == len(other) and all(map(same_kinds, one, other))
    return one == other
