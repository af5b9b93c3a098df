"""Walks that come to no place twice."""

from webstore.errors import TooMany
from webstore.shortest import MOST_WALKS
from webstore.walks import Maze, need_ends


def plain_walks(store, way, a, b):
    """The rising list of all walks of the way from a to b that come to no place twice; refused where too many."""
    need_ends(store, a, b)
    book = Plainbook(Maze(store, way, [a]), b, MOST_WALKS)
    if book.many_from(a) > MOST_WALKS:
        raise TooMany(f"there are more than {MOST_WALKS} plain walks")
    return sorted(book.walks_from(a), key=lambda walk: (len(walk), walk))


class Plainbook:
    """Counts the walks in a maze that end at b and come to no place twice, no further than to more than most of them.

    What is left to go depends on the state, and on those places alone that are free and from which b can be come to:
    by these it is reckoned once, however many heads lead there. Most None: all are counted.
    """

    def __init__(self, maze, b, most):
        self.maze = maze
        self.b = b
        self.most = most
        self.known = {}

    def many_from(self, a):
        """The number of plain walks from a."""
        return self.many_ahead((a, (self.maze.first,)), self.free_from(a))

    def walks_from(self, a):
        """The list of all plain walks from a."""
        return self.walks_ahead((a, (self.maze.first,)), self.free_from(a))

    def free_from(self, a):
        """The places that are free between a and b."""
        return without(without(self.maze.legs, a), self.b)

    def many_ahead(self, state, free):
        """The number of plain walks from a state over free places."""
        if state[0] == self.b:
            return 1 if self.maze.is_end(state, self.b) else 0
        left = self.maze.left_to(self.b, free)
        places = sorted({place for place, number in left})
        key = (state, tuple(places))
        if key not in self.known:
            # A plain walk has no more legs than there are places to come to.
            links = self.maze.further(state, left, len(places) - 1)
            self.known[key] = self.many_by(links, free)
        return self.known[key]

    def many_by(self, links, free):
        """The number of plain walks by these legs on, each with the state behind it."""
        total = 0
        for leg, ahead in links:
            total += self.many_ahead(ahead, without(free, ahead[0]))
            if self.most is not None and total > self.most:
                return total
        return total

    def walks_ahead(self, state, free):
        """The list of all plain walks from a state over free places."""
        if state[0] == self.b:
            return [()] if self.maze.is_end(state, self.b) else []
        left = self.maze.left_to(self.b, free)
        found = []
        for leg, ahead in self.maze.further(state, left, len(left)):
            rest = without(free, ahead[0])
            if self.many_ahead(ahead, rest) > 0:
                found = found + [(leg,) + walk for walk in self.walks_ahead(ahead, rest)]
        return found


def without(free, place):
    """The free places but one."""
    return {other: True for other in free if other != place}
