"""WAYs in sheets: one word each."""

from webstore.taker import Taker
from webstore.values import is_name


def way_told(number, word):
    """The way that a word of the row with this number tells."""
    signs = Taker(number, list(word))
    way = whole_way(signs)
    signs.need(not signs.has_more())
    return way


def whole_way(signs):
    """A WAY: PARTs with | between."""
    way = part(signs)
    while signs.takes("|"):
        way = ("or", way, part(signs))
    return way


def part(signs):
    """A PART: BITs with , between."""
    way = bit(signs)
    while signs.takes(","):
        way = ("then", way, bit(signs))
    return way


def bit(signs):
    """A BIT: an ATOM, alone or with one sign behind it of how often it is gone."""
    way = atom(signs)
    if signs.takes("*"):
        return ("again", way)
    if signs.takes("{"):
        low = signs.figure()
        signs.one_of(("-",))
        high = signs.figure()
        signs.one_of(("}",))
        signs.need(low <= high)
        return ("many", way, low, high)
    return way


def atom(signs):
    """An ATOM: a step, the empty one, or a WAY in brackets."""
    if not signs.takes("("):
        return step(signs)
    if signs.takes(")"):
        return ("empty",)
    way = whole_way(signs)
    signs.one_of((")",))
    return way


def step(signs):
    """A step: a KIND or any kind, and its turn."""
    kind = None if signs.takes("?") else kind_told(signs)
    if signs.takes("<"):
        return ("step", kind, "back")
    return ("step", kind, "either" if signs.takes("^") else "forth")


def kind_told(signs):
    """A KIND: all letters that stand here."""
    kind = ""
    while is_name(signs.next_thing()):
        kind = kind + signs.taken()
    signs.need(is_name(kind))
    return kind
