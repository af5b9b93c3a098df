"""Walks of a way, what they reach, and the fence round it."""

from webstore.restbook import Restbook
from webstore.values import is_number
from webstore.ways import tells


def legs_at(store, place):
    """The rising list of (tie, turn, place that it leads to) of all legs from a place."""
    forth = [(tie, "forth", store.tie(tie)[2]) for tie in store.out_of(place)]
    back = [(tie, "back", store.tie(tie)[1]) for tie in store.into(place)]
    return sorted(forth + back)


def need_ends(store, a, b):
    """Refuses two numbers of which one is none of a place."""
    store.need_place(a)
    store.need_place(b)


def is_walk(store, way, a, b, walk):
    """Whether a thing is a walk of the way from a to b."""
    need_ends(store, a, b)
    came = led(store, a, walk)
    return came is not None and came[0] == b and tells(way, came[1])


def led(store, a, thing):
    """Where a row of legs leads from a, and its steps; None of a thing that is none, or doesn't lead on from a."""
    if not isinstance(thing, (list, tuple)):
        return None
    here = a
    steps = []
    for leg in thing:
        if not is_leg(store, leg):
            return None
        kind, begin, end = gone(store, leg)
        if begin != here:
            return None
        steps.append((kind, leg[1]))
        here = end
    return (here, steps)


def is_leg(store, thing):
    """Whether a thing is a leg of the store."""
    if not isinstance(thing, tuple) or len(thing) != 2 or thing[1] not in ("forth", "back"):
        return False
    return is_number(thing[0]) and thing[0] in store.ties()


def gone(store, leg):
    """A leg's kind, and the places where it begins and ends."""
    tie, turn = leg
    kind, start, end = store.tie(tie)[:3]
    return (kind, start, end) if turn == "forth" else (kind, end, start)


class Maze:
    """What walks of a way from some places may come to: pairs (place, number of a rest), and the legs between them.

    onward tells of each pair all (leg, pair that it leads to), legs rising; behind the pairs that lead to it, as often
    as they do; depth its fewest legs from one of the first places; ends of each place its pairs at which a walk ends.
    """

    def __init__(self, store, way, begins):
        self.book = Restbook()
        self.first = self.book.number_of(way)
        self.legs = {place: legs_with_kinds(store, place) for place in store.places()}
        self.onward = {}
        self.behind = {(place, self.first): [] for place in begins}
        self.depth = {pair: 0 for pair in self.behind}
        self.spread()
        self.ends = {place: [] for place in self.legs}
        for place, number in self.onward:
            if self.book.may_end(number):
                self.ends[place].append((place, number))

    def spread(self):
        """Goes on from the first pairs, by the fewest legs first, until nothing new comes."""
        queue = list(self.behind)
        at = 0
        while at < len(queue):
            pair = queue[at]
            links = self.legs_from(pair)
            self.onward[pair] = links
            for leg, ahead in links:
                if ahead not in self.behind:
                    self.behind[ahead] = []
                    self.depth[ahead] = self.depth[pair] + 1
                    queue.append(ahead)
                self.behind[ahead].append(pair)
            at += 1

    def legs_from(self, pair):
        """All (leg, pair that it leads to) from a pair."""
        place, number = pair
        return [(leg, (end, rest)) for leg, kind, end in self.legs[place]
                for rest in self.book.rests_of(number, kind, leg[1])]

    def left_to(self, b, free):
        """Of each pair from which a walk can still end at b, the fewest legs left; all pairs are of free places."""
        left = {pair: 0 for pair in self.ends[b]}
        queue = list(left)
        at = 0
        while at < len(queue):
            here = queue[at]
            for pair in self.behind[here]:
                if pair not in left and pair[0] in free:
                    left[pair] = left[here] + 1
                    queue.append(pair)
            at += 1
        return left

    def short_walk(self, pair, left):
        """A row of the fewest legs from a pair to the end, where left tells how many are left."""
        return tuple([leg for leg, ahead in self.short_links(pair, left)])

    def short_links(self, pair, left):
        """The same, each leg with the pair that it leads to."""
        links = []
        while left[pair] > 0:
            nearer = [link for link in self.onward[pair] if left.get(link[1]) == left[pair] - 1]
            links.append(nearer[0])
            pair = nearer[0][1]
        return links

    def further(self, state, left, room):
        """All (leg, state behind it), legs rising, from which a walk can end within so many legs more.

        A state is (place, numbers of all rests that may be left there): so each row of legs leads to one state alone,
        in however many ways its steps may be parted.
        """
        place, numbers = state
        found = []
        for leg, kind, end in self.legs[place]:
            rests = self.book.rests_of_all(numbers, kind, leg[1])
            kept = tuple([rest for rest in rests if left.get((end, rest), room + 1) <= room])
            if kept:
                found.append((leg, (end, kept)))
        return found

    def is_end(self, state, b):
        """Whether a walk that came to a state may end there, at b."""
        return state[0] == b and self.book.some_may_end(state[1])


def legs_with_kinds(store, place):
    """The legs from a place, each as (leg, kind of the tie, place that it leads to)."""
    return [((tie, turn), store.tie(tie)[0], end) for tie, turn, end in legs_at(store, place)]


def reached(store, way, a):
    """The rising list of all places to which a walk of the way leads from a."""
    store.need_place(a)
    maze = Maze(store, way, [a])
    return [place for place in store.places() if maze.ends[place]]


def fence(store, way, a, b):
    """("walk", walk) of a walk of the way from a to b, or ("fence", pairs) where there is none."""
    need_ends(store, a, b)
    maze = Maze(store, way, [a])
    left = maze.left_to(b, maze.legs)
    if (a, maze.first) in left:
        return ("walk", maze.short_walk((a, maze.first), left))
    return ("fence", [(place, maze.book.way_of(number)) for place, number in maze.onward])
