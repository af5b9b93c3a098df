"""What a pattern is answered: the rows of places that lay it, each with its count."""

from webstore.counting import count_within, lasting_pairs
from webstore.errors import NoEnd, TooMany
from webstore.patterns import is_of_spot, is_so, spots_of, stands
from webstore.plainwalks import Plainbook
from webstore.walks import Maze

MOST_ROWS = 200


def ask(store, pattern):
    """The rising list of (row, count) for all rows that lay a pattern; refused without an end, or with too many."""
    rooms = rooms_of(store, pattern)
    return answered(rooms, pairings_of(store, pattern), spans_over(store, pattern, rooms))


def rooms_of(store, pattern):
    """For each spot of a pattern the rising list of the places that are of it."""
    return [[place for place in store.places() if is_of_spot(store, spot, place)] for spot in pattern[0]]


def pairings_of(store, pattern):
    """The pairs of a pattern as links."""
    return [Pairing(store, pair) for pair in pattern[2]]


def spans_over(store, pattern, rooms):
    """The bows of a pattern as links."""
    return [Span(store, bow, rooms[bow[0]]) for bow in pattern[1]]


def answered(rooms, pairings, spans):
    """What ask tells of a pattern with these rooms and links; refused likewise."""
    links = pairings + quick_ones_first(spans)
    first = first_without_end(rooms, spans, links)
    if first is not None:
        raise NoEnd(first)
    rows = Board(rooms, links).first_rows(MOST_ROWS + 1)
    if len(rows) > MOST_ROWS:
        raise TooMany(f"more than {MOST_ROWS} rows lay the pattern")
    return [(row, count_of(spans, row)) for row in rows]


def first_row(store, pattern):
    """The first row that lays a pattern, whatever its count; None where there is none."""
    rooms = rooms_of(store, pattern)
    links = pairings_of(store, pattern) + quick_ones_first(spans_over(store, pattern, rooms))
    return min(Board(rooms, links).first_rows(1), default=None)


def laid(store, pattern, row):
    """The count of a row, None for one without end, 0 where it doesn't lay the pattern."""
    spots, bows = pattern[:2]
    if not stands(store, spots, row):
        return 0
    spans = [Span(store, bow, [row[bow[0]]]) for bow in bows]
    links = pairings_of(store, pattern) + spans
    if not all([link.holds(row[link.i], row[link.j]) for link in links]):
        return 0
    return count_of(spans, row)


def witness(store, pattern, row):
    """A list with a walk for each bow, by its sort, of a row that lays the pattern."""
    spans = [Span(store, bow, [row[bow[0]]]) for bow in pattern[1]]
    return [span.walk(row[span.i], row[span.j]) for span in spans]


def count_of(spans, row):
    """The product of the counts of all bows of a row that lays the pattern, None without an end."""
    product = 1
    for span in spans:
        many = span.many(row[span.i], row[span.j])
        if many is None:
            return None
        product = product * many
    return product


def first_without_end(rooms, spans, links):
    """The first row that lays the pattern with a count without end; None where there is none."""
    found = []
    for span in spans:
        if span.manner == "all":
            found = found + Board(rooms, [Lasting(span)] + links).first_rows(1)
    return min(found, default=None)


def quick_ones_first(spans):
    """The bows, plain ones at the end: it takes longer to find out whether there is a plain walk."""
    return sorted(spans, key=lambda span: span.manner == "plain")


class Pairing:
    """A pair of a pattern in a store, as a link: it holds of some places at its spots i and j."""

    def __init__(self, store, pair):
        self.i = spots_of(pair)[0]
        self.j = spots_of(pair)[1]
        self.pair = pair
        self.store = store

    def holds(self, a, b):
        """Whether the pair is so of a at i and b at j."""
        return is_so(self.store, self.pair, a, b)


class Span:
    """A bow of a pattern over a store, as a link; what is found out is kept while a question is answered."""

    def __init__(self, store, bow, begins):
        self.i = bow[0]
        self.j = bow[1]
        self.manner = bow[2]
        self.maze = Maze(store, bow[3], begins)
        self.known_left = {}
        self.known_lasting = {}
        self.known_plain = {}
        self.known_many = {}

    def legs_left(self, b):
        """Of each pair of the maze, the fewest legs left to b."""
        if b not in self.known_left:
            self.known_left[b] = self.maze.left_to(b, self.maze.legs)
        return self.known_left[b]

    def holds(self, a, b):
        """Whether there is a walk of the sort from a at i to b at j."""
        if self.manner == "plain":
            return self.has_plain(a, b)
        return (a, self.maze.first) in self.legs_left(b)

    def has_plain(self, a, b):
        """Whether there is a plain walk from a to b."""
        if (a, b) not in self.known_plain:
            self.known_plain[(a, b)] = Plainbook(self.maze, b, True).many_from(a) > 0
        return self.known_plain[(a, b)]

    def is_lasting(self, a, b):
        """Whether there is no end of walks from a to b."""
        if b not in self.known_lasting:
            self.known_lasting[b] = lasting_pairs(self.maze, self.legs_left(b))
        return (a, self.maze.first) in self.known_lasting[b]

    def many(self, a, b):
        """The count of places of which the link holds, None without an end."""
        if (a, b) not in self.known_many:
            self.known_many[(a, b)] = self.counted(a, b)
        return self.known_many[(a, b)]

    def counted(self, a, b):
        """The same, reckoned afresh."""
        if self.manner == "any":
            return 1
        if self.manner == "plain":
            return Plainbook(self.maze, b, False).many_from(a)
        left = self.legs_left(b)
        if self.manner == "short":
            return count_within(self.maze, a, b, left, left[(a, self.maze.first)])
        return None if self.is_lasting(a, b) else count_within(self.maze, a, b, left, len(left))

    def walk(self, a, b):
        """A walk of the sort from a to b, of which the link holds."""
        if self.manner == "plain":
            return Plainbook(self.maze, b, True).walks_from(a, 1)[0]
        return self.maze.short_walk((a, self.maze.first), self.legs_left(b))


class Lasting:
    """A bow, as a link that holds of those places alone between which there is no end of walks."""

    def __init__(self, span):
        self.i = span.i
        self.j = span.j
        self.span = span

    def holds(self, a, b):
        """Whether there is no end of walks from a at i to b at j."""
        return self.span.is_lasting(a, b)


class Board:
    """Lays rows, spot by spot: places out of the rooms, one room for each spot, so that all links hold."""

    def __init__(self, rooms, links):
        self.links = links
        self.rooms = shrunk(rooms, links)
        self.dead = {}

    def first_rows(self, most):
        """The rising list of all rows, or of so many of the first ones."""
        return self.rows_from((), self.rooms, most)

    def rows_from(self, row, rooms, most):
        """The rising list of all rows that begin with this one, or of so many of the first ones."""
        at = len(row)
        if at == len(rooms):
            return [row]
        key = self.what_counts(row)
        found = []
        if key not in self.dead and all(rooms[at:]):
            for place in rooms[at]:
                if len(found) < most:
                    beside = self.narrowed(rooms, at, place)
                    found = found + self.rows_from(row + (place,), beside, most - len(found))
        if not found:
            self.dead[key] = True
        return found

    def what_counts(self, row):
        """What of a row's beginning matters further on: how long it is, and the places from which a link leads on."""
        at = len(row)
        bound = sorted({min(link.i, link.j) for link in self.links if min(link.i, link.j) < at <= max(link.i, link.j)})
        return (at, tuple([row[spot] for spot in bound]))

    def narrowed(self, rooms, at, place):
        """The rooms, those behind a spot with the places alone that may stand beside a place there."""
        found = list(rooms)
        for link in self.links:
            if link.i == at and link.j > at:
                found[link.j] = [other for other in found[link.j] if link.holds(place, other)]
            if link.j == at and link.i > at:
                found[link.i] = [other for other in found[link.i] if link.holds(other, place)]
        return found


def shrunk(rooms, links):
    """The rooms without the places that can't stand in any row, as far as single links show it."""
    smaller = [[place for place in room if has_mates(links, rooms, at, place)] for at, room in enumerate(rooms)]
    while smaller != rooms:
        rooms = smaller
        smaller = [[place for place in room if has_mates(links, rooms, at, place)] for at, room in enumerate(rooms)]
    return rooms


def has_mates(links, rooms, at, place):
    """Whether beside a place at a spot each link holds with some place of the other room."""
    for link in links:
        if link.i == at and not some_behind(link, place, [place] if link.j == at else rooms[link.j]):
            return False
        if link.j == at and link.i != at and not some_ahead(link, rooms[link.i], place):
            return False
    return True


def some_behind(link, a, room):
    """Whether a link holds of a place and some one of a room."""
    for b in room:
        if link.holds(a, b):
            return True
    return False


def some_ahead(link, room, b):
    """Whether a link holds of some place of a room and another one."""
    for a in room:
        if link.holds(a, b):
            return True
    return False
