"""How many rows there are behind a move of a plan: they are counted, not gone through one by one."""

from webstore.asking import quick_ones_first


class Loadbook:
    """Counts the rows of a pattern with these rooms and links, behind some of its moves.

    Which places go together at two spots is found out once for the same bows between them.
    """

    def __init__(self, rooms, pairings, spans):
        self.rooms = rooms
        self.pairings = pairings
        self.spans = spans
        self.known_mates = {}

    def rows_behind(self, state):
        """How many rows there are for the spots laid, by the pairs between them and the bows that came."""
        laid, came = state
        rooms = {}
        mates = {}
        for one in laid:
            links = self.between(one, one, came)
            rooms[one] = [place for place in self.rooms[one] if go_together(links, one, place, place)]
            for other in laid:
                if one != other and self.between(one, other, came):
                    mates[(one, other)] = self.mates_of(one, other, came)
        return rows_within(rooms, mates)

    def between(self, one, other, came):
        """The links between two spots where these bows came, those first that are quick to ask."""
        spans = quick_ones_first([self.spans[k] for k in came])
        return [link for link in self.pairings + spans if ends_at(link, one, other)]

    def mates_of(self, one, other, came):
        """Of each place at one spot, a dict of True of the places at the other one that go together with it."""
        key = (one, other, tuple([k for k in came if ends_at(self.spans[k], one, other)]))
        if key not in self.known_mates:
            links = self.between(one, other, came)
            self.known_mates[key] = {a: {b: True for b in self.rooms[other] if go_together(links, one, a, b)}
                                     for a in self.rooms[one]}
        return self.known_mates[key]


def ends_at(link, one, other):
    """Whether a link is one between two spots, in whatever turn."""
    return (link.i, link.j) in ((one, other), (other, one))


def go_together(links, one, a, b):
    """Whether all these links hold of a at the spot one and b at the other spot."""
    for link in links:
        if not (link.holds(a, b) if link.i == one else link.holds(b, a)):
            return False
    return True


def rows_within(rooms, mates):
    """How many rows there are with a place out of each room, by the places that go together at two spots."""
    ties = {spot: len([other for other in rooms if (spot, other) in mates]) for spot in rooms}
    product = 1
    for spot in rooms:
        if ties[spot] == 0:
            product = product * len(rooms[spot])
    left = [spot for spot in rooms if ties[spot] > 0]
    if product == 0 or not left:
        return product
    # The spot with the most ties first: so what is left falls apart soonest.
    first = max(left, key=lambda spot: ties[spot])
    others = [spot for spot in left if spot != first]
    if len(others) == 1:
        return product * rows_of_two(rooms[first], rooms[others[0]], mates[(first, others[0])])
    total = 0
    for place in rooms[first]:
        smaller = {spot: beside(rooms[spot], mates.get((first, spot)), place) for spot in others}
        total += rows_within(smaller, mates)
    return product * total


def rows_of_two(room, other, near):
    """How many rows of two places there are, where near tells of the first one what goes together with it."""
    return sum([len([b for b in other if b in near[a]]) for a in room])


def beside(room, near, place):
    """The places of a room that go together with a place; all where nothing ties the two spots."""
    return room if near is None else [other for other in room if other in near[place]]
