"""Dealings: deeds that are done all or not at all, and behind which all rules hold."""

from webstore.errors import BadDeed, Broken, NoPlace, NoTie, Taken, Tied
from webstore.rules import breach
from webstore.store import copied


class Dealer:
    """A store of its own, changed in dealings alone, and the rules that hold behind each of them."""

    def __init__(self, store):
        self.store = copied(store)
        self.rules = []

    def add_rule(self, rule):
        """Puts a rule in; refused where one of that name is there, or where it doesn't hold now."""
        if rule[1] in [known[1] for known in self.rules]:
            raise Taken(f"there is a rule {rule[1]} already")
        need_rules(self.store, [rule])
        self.rules.append(rule)

    def deal(self, deeds):
        """Does these deeds, and tells the list of what the store tells of each; refused, all is as it was."""
        dealing = Dealing(self.store)
        told = [dealing.told_of_deed(at, deed) for at, deed in enumerate(deeds)]
        need_rules(dealing.store, self.rules)
        self.store = dealing.store
        return told

    def told_store(self):
        """A copy of the store."""
        return copied(self.store)

    def told_rules(self):
        """The list of the rules, in the order in which they came."""
        return list(self.rules)


class Dealing:
    """A dealing under way: deeds are done in a copy of the store, and what is made is kept in mind."""

    def __init__(self, store):
        self.store = copied(store)
        self.made_places = []
        self.made_ties = []

    def told_of_deed(self, at, deed):
        """Does a deed and tells what the store tells; refused with its place in the list and the refusal's name."""
        try:
            return self.do(deed)
        except NoPlace:
            raise BadDeed(at, "NoPlace") from None
        except NoTie:
            raise BadDeed(at, "NoTie") from None
        except Tied:
            raise BadDeed(at, "Tied") from None

    def do(self, deed):
        """Does a deed and tells what the store tells."""
        word = deed[0]
        if word == "add_place":
            self.made_places.append(self.store.add_place(deed[1], deed[2]))
            return self.made_places[-1]
        if word == "add_tie":
            start, end = meant(deed[2], self.made_places), meant(deed[3], self.made_places)
            self.made_ties.append(self.store.add_tie(deed[1], start, end, deed[4]))
            return self.made_ties[-1]
        if word == "take_place":
            return self.store.take_place(meant(deed[1], self.made_places))
        if word == "take_tie":
            return self.store.take_tie(meant(deed[1], self.made_ties))
        if word == "set_place":
            return self.store.set_place(meant(deed[1], self.made_places), deed[2], deed[3])
        return self.store.set_tie(meant(deed[1], self.made_ties), deed[2], deed[3])


def meant(number, made):
    """The number that a deed means: -1 the first one made in this dealing, -2 the second one and so on."""
    # The number of one that isn't made yet stays below nought, where no place and no tie is.
    return made[-1 - number] if -len(made) <= number < 0 else number


def need_rules(store, rules):
    """Refuses a store in which one of these rules doesn't hold, the first one that doesn't."""
    for rule in rules:
        found = breach(store, rule)
        if found is not None:
            raise Broken(rule[1], found)
