"""Sheets: rows of words that tell deeds, rules and questions."""

from webstore.errors import BadRow
from webstore.sheetwords import read_parts
from webstore.taker import Taker

DEED_FORMS = {
    "place": ("name", "name", "fields"),
    "tie": ("name", "name", "name", "name", "fields"),
    "drop": ("name",),
    "cut": ("name",),
    "set": ("name", "name", "value"),
    "clear": ("name", "name"),
}
RULE_FORMS = {
    "field": ("name", "name", "name", "field sort"),
    "ends": ("name", "name", "name", "name"),
    "alone": ("name", "name", "name"),
    "many": ("name", "name", "name", "turn", "figure", "figure"),
    "ringless": ("name", "way"),
}
QUESTION_FORMS = {
    "count": ("name", "way", "name"),
    "short": ("name", "way", "name"),
    "plain": ("name", "way", "name"),
    "reach": ("name", "way"),
}
PAIR_FORMS = {
    "unlike": ("name", "name"),
    "same": ("name", "name", "name", "name"),
    "less": ("name", "name", "name", "name"),
}


def read_sheet(text):
    """The list of the orders that a sheet tells; refused with the number of the first row that can't stand there."""
    rows = text.split("\n")
    reader = Reader()
    for number, row in enumerate(rows):
        words = Taker(number, [word for word in row.split(" ") if word])
        if words.has_more():
            reader.take_row(words)
    if reader.in_dealing or reader.asking is not None:
        raise BadRow(len(rows))
    return reader.orders


class Reader:
    """The orders read so far, and whether a dealing or an asking is open."""

    def __init__(self):
        self.orders = []
        self.in_dealing = False
        self.asking = None

    def take_row(self, words):
        """Takes the next row that has words."""
        word = words.taken()
        if self.asking is not None:
            self.take_asking_row(word, words)
        elif word in DEED_FORMS:
            self.orders.append((word,) + read_parts(words, DEED_FORMS[word]))
        elif word == "end":
            words.need(self.in_dealing)
            self.orders.append((word,) + read_parts(words, ()))
            self.in_dealing = False
        else:
            words.need(not self.in_dealing)
            self.take_other_row(word, words)

    def take_other_row(self, word, words):
        """Takes a row, no deed, that stands outside dealings and askings."""
        if word == "begin":
            self.orders.append((word,) + read_parts(words, ()))
            self.in_dealing = True
        elif word == "ask":
            read_parts(words, ())
            self.asking = Asking()
        elif word == "rule":
            self.orders.append((word,) + rule_told(words))
        else:
            words.need(word in QUESTION_FORMS)
            self.orders.append((word,) + read_parts(words, QUESTION_FORMS[word]))

    def take_asking_row(self, word, words):
        """Takes a row of an open asking."""
        if word == "go":
            read_parts(words, ())
            words.need(len(self.asking.names) > 0)
            self.orders.append(self.asking.order())
            self.asking = None
        else:
            self.asking.take_part(word, words)


def rule_told(words):
    """The rule that a row's words tell."""
    word = words.one_of(list(RULE_FORMS))
    parts = read_parts(words, RULE_FORMS[word])
    if word == "many":
        words.need(parts[-2] <= parts[-1])
    return (word,) + parts


class Asking:
    """A pattern that is put together row by row, with a name for each spot."""

    def __init__(self):
        self.names = []
        self.spots = []
        self.bows = []
        self.pairs = []

    def take_part(self, word, words):
        """Takes a row that tells a spot, a bow or a pair."""
        if word == "spot":
            name, kind, test = read_parts(words, ("name", "kind", "test"))
            words.need(name not in self.names)
            self.names.append(name)
            self.spots.append((kind, test))
        elif word == "bow":
            name, sort, other, way = read_parts(words, ("name", "bow sort", "name", "way"))
            self.bows.append((self.spot_called(words, name), self.spot_called(words, other), sort, way))
        else:
            words.need(word in PAIR_FORMS)
            self.pairs.append(self.pair_told(word, words))

    def pair_told(self, word, words):
        """The pair that a row tells."""
        parts = read_parts(words, PAIR_FORMS[word])
        if word == "unlike":
            return ("unlike", self.spot_called(words, parts[0]), self.spot_called(words, parts[1]))
        name, field, other, bound = parts
        sort = "same" if word == "same" else "under"
        return (sort, self.spot_called(words, name), field, self.spot_called(words, other), bound)

    def spot_called(self, words, name):
        """The number of the spot of this name, which must be there."""
        words.need(name in self.names)
        return self.names.index(name)

    def order(self):
        """The order that asks for the pattern."""
        return ("ask", tuple(self.names), (tuple(self.spots), tuple(self.bows), tuple(self.pairs)))
