"""Plans: in which order the spots of a pattern are laid and its bows come, and what that takes."""

from webstore.asking import answered, pairings_of, rooms_of, spans_over
from webstore.errors import NoPlan
from webstore.loads import Loadbook
from webstore.patterns import is_spot_number

MOVES = ("back", "forth", "lay", "meet")
START = ((), ())


def is_plan(pattern, thing):
    """Whether a thing is a plan for a pattern."""
    if not isinstance(thing, (list, tuple)):
        return False
    state = START
    for move in thing:
        state = behind_move(pattern, state, move) if is_move(pattern, move) else None
        if state is None:
            return False
    return is_whole(pattern, state)


def is_move(pattern, thing):
    """Whether a thing has the form of a move: a word, and the number of a spot or of a bow."""
    if not isinstance(thing, tuple) or len(thing) != 2 or thing[0] not in MOVES:
        return False
    return is_spot_number(thing[1], many_for(pattern, thing[0]))


def many_for(pattern, word):
    """How many spots, or bows, there are that a move with this word may name."""
    return len(pattern[0] if word == "lay" else pattern[1])


def all_moves(pattern):
    """The rising list of all moves that plans for a pattern are made of."""
    return [(word, number) for word in MOVES for number in range(many_for(pattern, word))]


def behind_move(pattern, state, move):
    """The state behind a move: (spots laid, bows that came), both rising; None where the move can't be made there."""
    laid, came = state
    word, number = move
    if word == "lay":
        return None if number in laid else (with_one(laid, number), came)
    if number in came:
        return None
    first, second = pattern[1][number][:2]
    if word == "meet":
        return (laid, with_one(came, number)) if first in laid and second in laid else None
    begin, end = (first, second) if word == "forth" else (second, first)
    if begin not in laid or end in laid:
        return None
    return (with_one(laid, end), with_one(came, number))


def with_one(numbers, number):
    """Rising numbers with one more."""
    return tuple(sorted(numbers + (number,)))


def is_whole(pattern, state):
    """Whether all spots are laid and all bows came."""
    return len(state[0]) == len(pattern[0]) and len(state[1]) == len(pattern[1])


def played(store, pattern, plan):
    """(what ask tells, how many rows there were behind each move of a plan); refused where it is none, and as ask."""
    if not is_plan(pattern, plan):
        raise NoPlan("the thing is no plan for the pattern")
    rooms = rooms_of(store, pattern)
    pairings = pairings_of(store, pattern)
    spans = spans_over(store, pattern, rooms)
    answers = answered(rooms, pairings, spans)
    book = Loadbook(rooms, pairings, spans)
    loads = []
    state = START
    for move in plan:
        state = behind_move(pattern, state, move)
        loads.append(book.rows_behind(state))
    return (answers, loads)
