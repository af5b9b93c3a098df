"""Tests of fields."""

from webstore.values import before, is_name, is_value, same_sort


def is_test(thing):
    """Whether a thing is a test."""
    if not isinstance(thing, tuple) or len(thing) == 0:
        return False
    word = thing[0]
    parts = thing[1:]
    if word == "any":
        return len(parts) == 0
    if word == "has":
        return len(parts) == 1 and is_name(parts[0])
    if word in ("is", "under", "over"):
        return len(parts) == 2 and is_name(parts[0]) and is_value(parts[1])
    if word in ("both", "either"):
        return len(parts) == 2 and is_test(parts[0]) and is_test(parts[1])
    return word == "not" and len(parts) == 1 and is_test(parts[0])


def fits(test, fields):
    """Whether a test holds of fields, handed in as a dict or as told pairs."""
    return holds(test, dict(fields))


def holds(test, held):
    """Whether a test holds of a dict of fields."""
    word = test[0]
    if word == "any":
        return True
    if word == "both":
        return holds(test[1], held) and holds(test[2], held)
    if word == "either":
        return holds(test[1], held) or holds(test[2], held)
    if word == "not":
        return not holds(test[1], held)
    if test[1] not in held:
        return False
    return word == "has" or compares(word, held[test[1]], test[2])


def compares(word, value, bound):
    """Whether a field's value is, is under or is over the value that a test names."""
    if word == "is":
        return value == bound
    if not same_sort(value, bound):
        return False
    return before(value, bound) if word == "under" else before(bound, value)
