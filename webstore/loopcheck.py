"""The checker of loops: it goes round the ring until nothing new can come of it."""

from webstore.restbook import Restbook
from webstore.walks import led, need_ends


def shows_loop(store, way, a, b, loop):
    """Whether a thing is (head, ring, tail) such that there is no end of walks of the way from a to b by it."""
    need_ends(store, a, b)
    if not isinstance(loop, (list, tuple)) or len(loop) != 3:
        return False
    head = led(store, a, loop[0])
    if head is None:
        return False
    ring = led(store, head[0], loop[1])
    tail = led(store, head[0], loop[2])
    if ring is None or tail is None:
        return False
    if len(ring[1]) == 0 or ring[0] != head[0] or tail[0] != b:
        return False
    return tells_all_rounds(way, head[1], ring[1], tail[1])


def tells_all_rounds(way, head, ring, tail):
    """Whether a way tells head, ring any number of times, and tail, one behind the other."""
    book = Restbook()
    numbers = behind_all(book, (book.number_of(way),), head)
    seen = {}
    # The same rests once more: from there on all comes as it came before.
    while numbers not in seen:
        seen[numbers] = True
        if not book.some_may_end(behind_all(book, numbers, tail)):
            return False
        numbers = behind_all(book, numbers, ring)
    return True


def behind_all(book, numbers, steps):
    """The numbers of the rests of several ways behind a row of steps."""
    for kind, turn in steps:
        numbers = book.rests_of_all(numbers, kind, turn)
    return numbers
