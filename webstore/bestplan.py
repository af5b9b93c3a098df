"""The plan for a pattern with the least load."""

from webstore.asking import pairings_of, rooms_of, spans_over
from webstore.loads import Loadbook
from webstore.plans import START, all_moves, behind_move, is_whole


def best_plan(store, pattern):
    """(the least load of all plans for a pattern, the first plan that has it)."""
    planner = Planner(store, pattern)
    plan = []
    state = START
    while not is_whole(pattern, state):
        move, state = planner.best_move(state)
        plan.append(move)
    return (planner.load_ahead(START), plan)


class Planner:
    """Finds the least load of what is left to do, reckoned once for each state, however many moves lead there."""

    def __init__(self, store, pattern):
        rooms = rooms_of(store, pattern)
        self.pattern = pattern
        self.book = Loadbook(rooms, pairings_of(store, pattern), spans_over(store, pattern, rooms))
        self.known_ahead = {}
        self.known_rows = {}

    def load_ahead(self, state):
        """The least load of all moves from a state to the end."""
        if is_whole(self.pattern, state):
            return 0
        if state not in self.known_ahead:
            self.known_ahead[state] = min([self.load_by(ahead) for move, ahead in self.moves_from(state)])
        return self.known_ahead[state]

    def load_by(self, ahead):
        """The least load of a move that leads to a state, and of all behind it."""
        if ahead not in self.known_rows:
            self.known_rows[ahead] = self.book.rows_behind(ahead)
        return self.known_rows[ahead] + self.load_ahead(ahead)

    def best_move(self, state):
        """The first move that begins a row of moves with the least load, and the state behind it."""
        least = self.load_ahead(state)
        return [(move, ahead) for move, ahead in self.moves_from(state) if self.load_by(ahead) == least][0]

    def moves_from(self, state):
        """All (move, state behind it) that can be made at a state, moves rising."""
        tried = [(move, behind_move(self.pattern, state, move)) for move in all_moves(self.pattern)]
        return [(move, ahead) for move, ahead in tried if ahead is not None]
