"""What a sheet is answered: a text for each dealing, rule and question."""

from webstore.asking import ask
from webstore.counting import how_many
from webstore.dealer import Dealer, Dealing
from webstore.errors import Broken, Endless, NoEnd, NoPlace, NoTie, NoWalk, Taken, Tied, TooMany
from webstore.names import Names
from webstore.plainwalks import plain_walks
from webstore.sheet import read_sheet
from webstore.shortest import shortest
from webstore.store import Store
from webstore.walks import reached

QUESTIONS = ("count", "short", "plain", "reach", "ask")
TOO_MANY = "too many"
NO_PLACE = "bad NoPlace"


def run(text):
    """The list of the answers to a sheet; refused as read_sheet, ahead of all answers."""
    orders = read_sheet(text)
    runner = Runner()
    for order in orders:
        runner.take_order(order)
    return runner.told


class Runner:
    """A dealer with nothing in its store at first, the names that came to be, and the answers told so far."""

    def __init__(self):
        self.dealer = Dealer(Store())
        self.names = Names({}, {})
        self.open_dealing = None
        self.told = []

    def take_order(self, order):
        """Does what an order asks; a dealing that was begun is done at its end."""
        word = order[0]
        if word == "begin":
            self.open_dealing = []
        elif word == "end":
            self.told.append(self.dealt(self.open_dealing))
            self.open_dealing = None
        elif word == "rule":
            self.told.append(self.ruled(order[1:]))
        elif word in QUESTIONS:
            self.told.append(asked(self.dealer.store, self.names, order))
        elif self.open_dealing is None:
            self.told.append(self.dealt([order]))
        else:
            self.open_dealing.append(order)

    def dealt(self, orders):
        """The answer to a dealing of these orders."""
        names = self.names.twin()
        try:
            self.dealer.deal(deeds_meant(self.dealer.store, names, orders))
        except Taken:
            return "bad Taken"
        except NoPlace:
            return NO_PLACE
        except NoTie:
            return "bad NoTie"
        except Tied:
            return "bad Tied"
        except Broken as error:
            return broken(names, error.rule, error.breach)
        self.names = names
        return "done"

    def ruled(self, rule):
        """The answer to a rule."""
        try:
            self.dealer.add_rule(rule)
        except Taken:
            return "taken"
        except Broken as error:
            return broken(self.names, error.rule, error.breach)
        return "done"


def deeds_meant(store, names, orders):
    """The deeds that orders mean, tried one behind the other; names come to be as they are behind the last one.

    The first deed that is refused, for its names or by the store, is refused here as it is.
    """
    dealing = Dealing(store)
    deeds = []
    for order in orders:
        deed = names.deed_for(order)
        names.note(order, dealing.do(deed))
        deeds.append(deed)
    return deeds


def broken(names, rule, found):
    """The answer where a rule doesn't hold, and what was found to break it."""
    word, number = found
    return f"broken {rule} {word} {names.name_of(word, number)}"


def asked(store, names, order):
    """The answer to a question."""
    word = order[0]
    if word == "ask":
        return answers_told(store, names, order[2])
    try:
        begin = names.place_called(order[1])
        if word == "reach":
            return places_told(names, reached(store, order[2], begin))
        end = names.place_called(order[3])
    except NoPlace:
        return NO_PLACE
    if word == "count":
        return count_told(store, order[2], begin, end)
    if word == "short":
        return short_told(store, order[2], begin, end)
    return plain_told(store, order[2], begin, end)


def count_told(store, way, begin, end):
    """How many walks there are."""
    try:
        return str(how_many(store, way, begin, end))
    except Endless:
        return "endless"


def short_told(store, way, begin, end):
    """The fewest legs, and how many walks have so many."""
    try:
        legs, walks = shortest(store, way, begin, end)
    except NoWalk:
        return "none"
    except TooMany:
        return TOO_MANY
    return f"{legs} {len(walks)}"


def plain_told(store, way, begin, end):
    """How many plain walks there are."""
    try:
        return str(len(plain_walks(store, way, begin, end)))
    except TooMany:
        return TOO_MANY


def answers_told(store, names, pattern):
    """All rows that lay a pattern, each with its count."""
    try:
        answers = ask(store, pattern)
    except NoEnd:
        return "endless"
    except TooMany:
        return TOO_MANY
    if not answers:
        return "none"
    return " ; ".join([f"{places_told(names, row)} x {count}" for row, count in answers])


def places_told(names, places):
    """The names of places, or that there are none."""
    return " ".join([names.name_of("place", place) for place in places]) if places else "none"
