"""Kept answers: what a pattern is answered by a dealer's store, and what is new in it."""

from webstore.asking import ask
from webstore.errors import NoEnd, TooMany


class Kept:
    """What a pattern is answered by a dealer's store, now, and what counted when news was told last."""

    def __init__(self, dealer, pattern):
        self.dealer = dealer
        self.pattern = pattern
        try:
            self.last = dict(self.answers())
        except (NoEnd, TooMany):
            self.last = {}

    def answers(self):
        """What ask tells of the dealer's store now; refused as it."""
        return ask(self.dealer.store, self.pattern)

    def news(self):
        """The rising list of (row, by) for all rows whose count is otherwise than when news was told last."""
        now = dict(self.answers())
        rows = sorted(set(now) | set(self.last))
        more = [(row, now.get(row, 0) - self.last.get(row, 0)) for row in rows]
        self.last = now
        return [(row, by) for row, by in more if by != 0]

    def rows_with(self, place):
        """The rising list of the rows of answers in which a place stands; refused as answers."""
        return [row for row, count in self.answers() if place in row]
