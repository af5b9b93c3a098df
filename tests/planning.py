"""Plans to try, and what the document's words say of them, found by trying all."""

import itertools

from laying import bow_count, pair_so
from making import is_number
from webstore.fitting import fits


def judged(pattern, thing):
    """Whether a thing is a plan for a pattern, by the words of the document."""
    spots, bows = pattern[:2]
    if not isinstance(thing, (list, tuple)):
        return False
    laid, came = [], []
    for move in thing:
        if not isinstance(move, tuple) or len(move) != 2 or not is_number(move[1]) or move[1] < 0:
            return False
        word, number = move
        if word == "lay":
            if number >= len(spots):
                return False
            laid.append(number)
            continue
        if word not in ("forth", "back", "meet") or number >= len(bows):
            return False
        first, second = bows[number][:2]
        came.append(number)
        if word == "meet":
            if first not in laid or second not in laid:
                return False
        elif word == "forth":
            if first not in laid:
                return False
            laid.append(second)
        else:
            if second not in laid:
                return False
            laid.append(first)
    return sorted(laid) == list(range(len(spots))) and sorted(came) == list(range(len(bows)))


def all_plans(pattern):
    """All plans for a pattern, rising: all rows of moves are gone through that can be gone on with."""
    moves = [(word, number) for word in ("back", "forth", "meet") for number in range(len(pattern[1]))]
    moves = sorted(moves + [("lay", number) for number in range(len(pattern[0]))])
    found, heads = [], [()]
    while heads:
        found += [list(head) for head in heads if judged(pattern, head)]
        heads = [head + (move,) for head in heads for move in moves if may_begin(pattern, head + (move,))]
    return sorted(found)


def may_begin(pattern, head):
    """Whether no spot is laid twice and no bow comes twice, and each move finds laid what it needs."""
    laid, came = [], []
    for word, number in head:
        if word == "lay":
            laid.append(number)
            continue
        came.append(number)
        first, second = pattern[1][number][:2]
        if not {"meet": {first, second}, "forth": {first}, "back": {second}}[word] <= set(laid):
            return False
        laid += {"meet": [], "forth": [second], "back": [first]}[word]
    return len(set(laid)) == len(laid) and len(set(came)) == len(came)


def loads_tried(store, pattern, plan):
    """How many rows there are behind each move of a plan, by trying all."""
    counts, found = {}, []
    for many in range(1, len(plan) + 1):
        laid, came = gone_through(pattern, plan[:many])
        found.append(rows_behind(store, pattern, laid, came, counts))
    return found


def gone_through(pattern, moves):
    """The spots that are laid and the bows that came behind some moves."""
    laid, came = set(), set()
    for word, number in moves:
        if word == "lay":
            laid.add(number)
        else:
            came.add(number)
            laid |= set(pattern[1][number][:2])
    return sorted(laid), sorted(came)


def rows_behind(store, pattern, laid, came, counts):
    """How many rows of places for the laid spots there are, by which all is so; counts keeps what bows count."""
    spots, bows, pairs = pattern
    rooms = [[place for place in store.places() if spots[spot][0] in (None, store.place(place)[0])
              and fits(spots[spot][1], store.place(place)[1])] for spot in laid]
    between = [pair for pair in pairs if {pair[1], pair[2 if pair[0] == "unlike" else 3]} <= set(laid)]
    many = 0
    for places in itertools.product(*rooms):
        row = dict(zip(laid, places))
        if all(pair_so(store, pair, row) for pair in between):
            many += all(counted(store, bows, k, row, counts) != 0 for k in came)
    return many


def counted(store, bows, k, row, counts):
    a, b = row[bows[k][0]], row[bows[k][1]]
    if (k, a, b) not in counts:
        counts[(k, a, b)] = bow_count(store, bows[k], a, b)
    return counts[(k, a, b)]
