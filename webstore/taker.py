"""What is read from the left on: the words of a row of a sheet, or the signs of one word."""

from webstore.errors import BadRow

FIGURES = ("0", "1", "2", "3", "4", "5", "6")


class Taker:
    """The words of a row, or signs of a word in it, taken one behind the other.

    Whatever can't stand there is refused with the row's number.
    """

    def __init__(self, number, things):
        self.number = number
        self.things = things
        self.at = 0

    def need(self, is_right):
        """Refuses the row where something isn't as it must be."""
        if not is_right:
            raise BadRow(self.number)

    def has_more(self):
        """Whether something is left."""
        return self.at < len(self.things)

    def next_thing(self):
        """The next one, which isn't taken yet; the empty text where nothing is left."""
        return self.things[self.at] if self.has_more() else ""

    def taken(self):
        """The next one, which must be there."""
        self.need(self.has_more())
        self.at += 1
        return self.things[self.at - 1]

    def takes(self, thing):
        """Whether this one is the next; if so it is taken."""
        is_next = self.next_thing() == thing
        if is_next:
            self.at += 1
        return is_next

    def one_of(self, choices):
        """The next one, which must be one of these."""
        found = self.taken()
        self.need(found in choices)
        return found

    def figure(self):
        """The next one, which must be a figure from 0 to 6, as a number."""
        return int(self.one_of(FIGURES))
