"""What is kept while the rests of ways are followed."""

from webstore.ways import least_steps, rests


class Restbook:
    """Gives each way a number: ways may be too deep to be keys, numbers are not. Rests are reckoned once each."""

    def __init__(self):
        self.known_ways = []
        self.known_ends = []
        self.numbers = {}
        self.known_rests = {}
        self.known_sets = {}

    def number_of(self, way):
        """The number of a way, a new one for a way not seen yet."""
        text = repr(way)
        if text not in self.numbers:
            self.numbers[text] = len(self.known_ways)
            self.known_ways.append(way)
            self.known_ends.append(least_steps(way) == 0)
        return self.numbers[text]

    def way_of(self, number):
        """The way that has a number."""
        return self.known_ways[number]

    def may_end(self, number):
        """Whether a way tells the row without steps."""
        return self.known_ends[number]

    def some_may_end(self, numbers):
        """Whether one of several ways tells the row without steps."""
        return any([self.may_end(number) for number in numbers])

    def rests_of(self, number, kind, turn):
        """The numbers of the rests of a way behind a step."""
        key = (number, kind, turn)
        if key not in self.known_rests:
            found = rests(self.known_ways[number], kind, turn)
            self.known_rests[key] = tuple([self.number_of(rest) for rest in found])
        return self.known_rests[key]

    def rests_of_all(self, numbers, kind, turn):
        """The rising tuple of the numbers of all rests of several ways behind a step."""
        key = (numbers, kind, turn)
        if key not in self.known_sets:
            found = {rest for number in numbers for rest in self.rests_of(number, kind, turn)}
            self.known_sets[key] = tuple(sorted(found))
        return self.known_sets[key]
