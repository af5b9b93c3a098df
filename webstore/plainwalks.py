"""Walks that come to no place twice."""

from webstore.errors import TooMany
from webstore.shortest import MOST_WALKS
from webstore.walks import Maze, need_ends


def plain_walks(store, way, a, b):
    """The rising list of all walks of the way from a to b that come to no place twice; refused where too many."""
    need_ends(store, a, b)
    found = Plainbook(Maze(store, way, [a]), b, True).walks_from(a, MOST_WALKS + 1)
    if len(found) > MOST_WALKS:
        raise TooMany(f"there are more than {MOST_WALKS} plain walks")
    return sorted(found, key=lambda walk: (len(walk), walk))


class Plainbook:
    """Counts the walks in a maze that end at b and come to no place twice; all of them, or just whether there is one.

    What is left to go depends on the state, and on those places alone that are free and from which b can be come to:
    by these it is reckoned once, however many heads lead there.
    """

    def __init__(self, maze, b, one_will_do):
        self.maze = maze
        self.b = b
        self.one_will_do = one_will_do
        self.known = {}

    def many_from(self, a):
        """The number of plain walks from a."""
        return self.many_ahead((a, (self.maze.first,)), self.free_from(a))

    def walks_from(self, a, most):
        """The list of all plain walks from a, or of so many of them."""
        return self.walks_ahead((a, (self.maze.first,)), self.free_from(a), most)

    def free_from(self, a):
        """The places that are free between a and b."""
        return without(without(self.maze.legs, a), self.b)

    def many_ahead(self, state, free):
        """The number of plain walks from a state over free places."""
        if state[0] == self.b:
            return 1 if self.maze.is_end(state, self.b) else 0
        left = self.maze.left_to(self.b, free)
        places = sorted({place for place, number in left})
        key = (state, tuple(places))
        if key not in self.known:
            # A plain walk has no more legs than there are places to come to.
            links = self.maze.further(state, left, len(places) - 1)
            self.known[key] = self.many_by(links, free, left)
        return self.known[key]

    def many_by(self, links, free, left):
        """The number of plain walks by these legs on, each with the state behind it."""
        if self.one_will_do and self.one_is_plain(links, left):
            return 1
        times = {}
        for leg, ahead in links:
            times[ahead] = times.get(ahead, 0) + 1
        total = 0
        for ahead, count in times.items():
            total += count * self.many_ahead(ahead, without(free, ahead[0]))
            if self.one_will_do and total > 0:
                return total
        return total

    def one_is_plain(self, links, left):
        """Whether one of the shortest walks on happens to be plain; mostly one is."""
        for leg, (place, numbers) in links:
            rest = self.maze.short_links((place, numbers[0]), left)
            places = [place] + [pair[0] for leg, pair in rest]
            if len(set(places)) == len(places):
                return True
        return False

    def walks_ahead(self, state, free, most):
        """The list of all plain walks from a state over free places, or of so many of them."""
        if state[0] == self.b:
            return [()] if self.maze.is_end(state, self.b) else []
        left = self.maze.left_to(self.b, free)
        found = []
        for leg, ahead in self.maze.further(state, left, len(left)):
            rest = without(free, ahead[0])
            if len(found) < most and self.many_ahead(ahead, rest) > 0:
                found = found + [(leg,) + walk for walk in self.walks_ahead(ahead, rest, most - len(found))]
        return found


def without(free, place):
    """The free places but one."""
    return {other: True for other in free if other != place}
