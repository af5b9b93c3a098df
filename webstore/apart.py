"""Whether two ways tell the same rows, and if not, a row by which they are told apart."""

from webstore.restbook import Restbook

LETTERS = "abcdefghijklmnopqrstuvwxyz"


def apart(one, other):
    """None where two ways tell the same rows, else a row of the fewest steps that just one of them tells."""
    book = Restbook()
    steps = steps_to_try(kinds_in(one) + kinds_in(other))
    start = ((book.number_of(one),), (book.number_of(other),))
    came = {start: None}
    queue = [start]
    at = 0
    while at < len(queue):
        pair = queue[at]
        if book.some_may_end(pair[0]) != book.some_may_end(pair[1]):
            return trail(came, pair)
        for kind, turn in steps:
            ahead = (book.rests_of_all(pair[0], kind, turn), book.rests_of_all(pair[1], kind, turn))
            # From one and the same set on nothing can be told apart.
            if ahead[0] != ahead[1] and ahead not in came:
                came[ahead] = (pair, (kind, turn))
                queue.append(ahead)
        at += 1
    return None


def trail(came, last):
    """The tuple of what led to last: came tells of each the one ahead of it and what led on, None of the first."""
    found = []
    here = last
    while came[here] is not None:
        here, link = came[here]
        found.append(link)
    return tuple(found[::-1])


def kinds_in(way):
    """The kinds that a way names."""
    if way[0] == "step":
        return [] if way[1] is None else [way[1]]
    return [kind for part in way[1:] if isinstance(part, tuple) for kind in kinds_in(part)]


def steps_to_try(kinds):
    """All steps of these kinds, and of one kind more: it stands for all that are named nowhere."""
    strangers = [first + second for first in LETTERS for second in LETTERS if first + second not in kinds]
    tried = sorted(set(kinds)) + strangers[:1]
    return [(kind, turn) for kind in tried for turn in ("forth", "back")]
