"""Names, values and their order, and fields as they are told."""

LONGEST_NAME = 8


def is_name(thing):
    """Whether a thing is a NAME: one to eight letters from a to z."""
    if not isinstance(thing, str) or not 1 <= len(thing) <= LONGEST_NAME:
        return False
    return all(["a" <= sign <= "z" for sign in thing])


def is_number(thing):
    """Whether a thing is a whole number."""
    # Python counts True and False among its whole numbers, the document doesn't.
    return isinstance(thing, int) and not isinstance(thing, bool)


def is_value(thing):
    """Whether a thing is a value: a whole number or a text."""
    return is_number(thing) or isinstance(thing, str)


def same_sort(one, other):
    """Whether two values are both numbers, or both texts."""
    return isinstance(one, str) == isinstance(other, str)


def before(one, other):
    """Whether one value stands ahead of another one: numbers by size, then texts."""
    if same_sort(one, other):
        return one < other
    return isinstance(other, str)


def fields_told(fields):
    """The tuple of the pairs (name, value) of fields, handed in as a dict or as told pairs, names rising."""
    return tuple(sorted(dict(fields).items()))
