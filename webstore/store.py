"""The store of places and of ties between them."""

from webstore.errors import NoPlace, NoTie, Tied
from webstore.values import fields_told


class Store:
    """Places and ties, each numbered from 0 as they come.

    Each is kept as the tuple that is told of it, so that what is told can't be changed from outside.
    """

    def __init__(self):
        self.place_rows = {}
        self.tie_rows = {}
        self.next_place = 0
        self.next_tie = 0

    def add_place(self, kind, fields):
        """Puts a place in and tells its number."""
        number = self.next_place
        self.place_rows[number] = (kind, fields_told(fields))
        self.next_place = number + 1
        return number

    def add_tie(self, kind, start, end, fields):
        """Puts a tie in, from place start to place end, and tells its number."""
        self.need_place(start)
        self.need_place(end)
        number = self.next_tie
        self.tie_rows[number] = (kind, start, end, fields_told(fields))
        self.next_tie = number + 1
        return number

    def take_place(self, n):
        """Takes a place away, at which no tie begins or ends."""
        self.need_place(n)
        if self.out_of(n) or self.into(n):
            raise Tied(f"a tie begins or ends at place {n}")
        del self.place_rows[n]

    def take_tie(self, n):
        """Takes a tie away."""
        self.need_tie(n)
        del self.tie_rows[n]

    def set_place(self, n, name, value):
        """Gives a field of a place a value; of None the field is gone."""
        kind, fields = self.place(n)
        self.place_rows[n] = (kind, with_value(fields, name, value))

    def set_tie(self, n, name, value):
        """Gives a field of a tie a value; of None the field is gone."""
        kind, start, end, fields = self.tie(n)
        self.tie_rows[n] = (kind, start, end, with_value(fields, name, value))

    def place(self, n):
        """A place as (kind, told fields)."""
        self.need_place(n)
        return self.place_rows[n]

    def tie(self, n):
        """A tie as (kind, start, end, told fields)."""
        self.need_tie(n)
        return self.tie_rows[n]

    def places(self):
        """The rising list of the places' numbers."""
        return sorted(self.place_rows)

    def ties(self):
        """The rising list of the ties' numbers."""
        return sorted(self.tie_rows)

    def out_of(self, n):
        """The rising list of the ties that begin at a place."""
        self.need_place(n)
        return [tie for tie in self.ties() if self.tie_rows[tie][1] == n]

    def into(self, n):
        """The rising list of the ties that end at a place."""
        self.need_place(n)
        return [tie for tie in self.ties() if self.tie_rows[tie][2] == n]

    def need_place(self, n):
        """Refuses a number that is none of a place."""
        if n not in self.place_rows:
            raise NoPlace(f"there is no place {n}")

    def need_tie(self, n):
        """Refuses a number that is none of a tie."""
        if n not in self.tie_rows:
            raise NoTie(f"there is no tie {n}")


def with_value(fields, name, value):
    """Told fields with another value of one of them; of None it is gone."""
    pairs = [pair for pair in fields if pair[0] != name]
    if value is not None:
        pairs.append((name, value))
    return fields_told(pairs)


def rows_of(store):
    """The tuple of a row for each place, rising, and then of one for each tie, rising."""
    place_rows = [("place", n) + store.place(n) for n in store.places()]
    tie_rows = [("tie", n) + store.tie(n) for n in store.ties()]
    return tuple(place_rows + tie_rows)


def copied(store):
    """A store of its own that is the same in all, also in the numbers that come next."""
    twin = Store()
    twin.place_rows = dict(store.place_rows)
    twin.tie_rows = dict(store.tie_rows)
    twin.next_place = store.next_place
    twin.next_tie = store.next_tie
    return twin
