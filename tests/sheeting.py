"""Sheets to try: orders by chance, the texts that tell them, and what they are answered, found in another manner."""

import copy

from making import random_way
from webstore.asking import ask
from webstore.counting import how_many
from webstore.errors import Endless, NoEnd, NoPlace, NoTie, NoWalk, Taken, Tied, TooMany
from webstore.plainwalks import plain_walks
from webstore.rules import breach
from webstore.shortest import shortest
from webstore.store import Store
from webstore.walks import reached

TURN_SIGNS = {"forth": "", "back": "<", "either": "^"}
PAIR_WORDS = {"unlike": "unlike", "same": "same", "under": "less"}


def way_word(way, chance=None):
    """The word that tells a way; by chance with brackets that need not be there."""
    word = way[0]
    if word == "or":
        return f"{within(way[1], ('or', 'then'), chance)}|{within(way[2], ('then',), chance)}"
    if word == "then":
        return f"{within(way[1], ('then',), chance)},{within(way[2], (), chance)}"
    if word == "again":
        return f"{atom_word(way[1], chance)}*"
    if word == "many":
        return f"{atom_word(way[1], chance)}{{{way[2]}-{way[3]}}}"
    return atom_word(way, chance)


def within(way, bare, chance):
    """The word of a way that stands beside a | or a , and there needs brackets, where it is no BIT and not bare."""
    needs = way[0] in ("or", "then") and way[0] not in bare
    return f"({way_word(way, chance)})" if needs or chance and chance.random() < 0.2 else way_word(way, chance)


def atom_word(way, chance):
    if way[0] == "empty":
        return "()"
    if way[0] == "step":
        return (way[1] or "?") + TURN_SIGNS[way[2]]
    return f"({way_word(way, chance)})"


def value_word(value):
    return f"={value}" if isinstance(value, str) else str(value)


def words_of_test(test):
    """The words that tell a test."""
    if test[0] in ("not", "both", "either"):
        return [test[0]] + [word for part in test[1:] for word in words_of_test(part)]
    return list(test[:2]) + [value_word(value) for value in test[2:]]


def rows_of_order(order, chance=None):
    """The rows of words that tell an order."""
    word = order[0]
    if word in ("place", "tie"):
        return [list(order[:-1]) + [each for name, value in order[-1] for each in (name, value_word(value))]]
    if word == "set":
        return [list(order[:3]) + [value_word(order[3])]]
    if word in ("count", "short", "plain", "reach"):
        return [[order[0], order[1], way_word(order[2], chance)] + list(order[3:])]
    if order[:2] == ("rule", "ringless"):
        return [list(order[:3]) + [way_word(order[3], chance)]]
    if word == "ask":
        return [["ask"]] + asking_rows(order[1], order[2], chance) + [["go"]]
    return [[str(part) for part in order]]


def asking_rows(names, pattern, chance):
    """The rows of a pattern, each spot ahead of those that name it; by chance in one of several orders."""
    spots, bows, pairs = pattern
    rows = {"spot": [["spot", name, kind or "?"] + words_of_test(test) for name, (kind, test) in zip(names, spots)],
            "bow": [["bow", names[i], sort, names[j], way_word(way, chance)] for i, j, sort, way in bows],
            "pair": [[PAIR_WORDS[pair[0]]] + pair_words(names, pair) for pair in pairs]}
    found, told = [], []
    while any(rows.values()):
        ready = []
        for sort, left in rows.items():
            if left and (sort == "spot" or needed(sort, left[0]) <= set(told)):
                ready.append(sort)
        sort = chance.choice(ready) if chance else ready[0]
        found.append(rows[sort].pop(0))
        if sort == "spot":
            told.append(found[-1][1])
    return found


def needed(sort, row):
    """The names of the spots that a row names."""
    return {row[1], row[2] if row[0] == "unlike" else row[3]}


def pair_words(names, pair):
    if pair[0] == "unlike":
        return [names[pair[1]], names[pair[2]]]
    return [names[pair[1]], pair[2], names[pair[3]], pair[4]]


def text_of(orders, chance=None):
    """The sheet that tells orders; by chance with more blanks, and with rows without words."""
    rows = [row for order in orders for row in rows_of_order(order, chance)]
    if not chance:
        return "\n".join(" ".join(row) for row in rows)
    lines = []
    for row in rows:
        blanks = [" " * chance.choice((1, 1, 1, 2, 5)) for _ in row[1:]] + [""]
        line = "".join(word + blank for word, blank in zip(row, blanks))
        lines.append(" " * chance.choice((0, 0, 0, 1, 3)) + line + " " * chance.choice((0, 0, 1, 4)))
        if chance.random() < 0.1:
            lines.append(" " * chance.randrange(3))
    return "\n".join(lines)


def random_fields(chance):
    return tuple((name, chance.choice((0, 1, -7, 10 ** 12 - 1, "", "x", "abcdefghijklmnopqrs")))
                 for name in ("u", "v", "wwwwwwww") if chance.random() < 0.4)


def random_test(chance, deep):
    word = chance.choice(("any", "has", "is", "under", "over") + (("not", "both", "either") if deep else ()))
    if word == "any":
        return (word,)
    if word == "has":
        return (word, chance.choice("uv"))
    if word in ("is", "under", "over"):
        return (word, chance.choice("uv"), chance.choice((0, 1, 2, -1, "", "x", "y")))
    parts = [random_test(chance, deep - 1) for _ in range(1 if word == "not" else 2)]
    return (word, *parts)


def random_deed_order(chance):
    """An order that is a deed, on places a to e and ties a to e."""
    def name():
        return chance.choice("aabbcde")

    word = chance.choice(("place", "place", "place", "tie", "tie", "tie", "drop", "cut", "set", "clear"))
    if word == "place":
        return (word, name(), chance.choice("ppq"), random_fields(chance))
    if word == "tie":
        return (word, name(), chance.choice("ab"), name(), name(), random_fields(chance))
    if word == "set":
        return (word, name(), chance.choice("uv"), chance.choice((0, 1, "", "x")))
    return (word, name(), chance.choice("uv")) if word == "clear" else (word, name())


def random_rule_order(chance):
    word = chance.choice(("field", "ends", "alone", "many", "ringless"))
    name, kind = chance.choice("rstuvw"), chance.choice("pq")
    if word == "field":
        return ("rule", word, name, kind, chance.choice("uv"), chance.choice(("number", "text")))
    if word == "ends":
        return ("rule", word, name, chance.choice("ab"), chance.choice("ppq"), chance.choice("ppq"))
    if word == "alone":
        return ("rule", word, name, kind, chance.choice("uv"))
    if word == "many":
        low = chance.choice((0, 0, 0, 1))
        return ("rule", word, name, kind, chance.choice("ab"), chance.choice(("forth", "back")), low,
                chance.randrange(low, 4))
    return ("rule", word, name, random_way(chance, chance.randrange(1, 4), most=3))


def random_question(chance):
    word = chance.choice(("count", "short", "plain", "reach", "ask", "ask"))
    if word == "ask":
        return ("ask", *random_asking(chance))
    order = (word, chance.choice("aabbcd"), random_way(chance, chance.randrange(1, 5), most=3))
    return order if word == "reach" else order + (chance.choice("aabbcd"),)


def random_asking(chance):
    """The names of the spots, and a pattern of few of them."""
    names = tuple(chance.sample(("a", "b", "spot", "go", "abcdefgh"), chance.randrange(1, 4)))

    def spot():
        return chance.randrange(len(names))

    def pair():
        if chance.random() < 0.4:
            return ("unlike", spot(), spot())
        return (chance.choice(("same", "under")), spot(), chance.choice("uv"), spot(), chance.choice("uv"))

    spots = tuple((chance.choice((None, None, "p", "q")), random_test(chance, 2) if chance.random() < 0.4 else ("any",))
                  for _ in names)
    bows = tuple((spot(), spot(), chance.choice(("all", "short", "plain", "any")),
                  random_way(chance, chance.randrange(1, 4), most=3)) for _ in range(chance.randrange(3)))
    return names, (spots, bows, tuple(pair() for _ in range(chance.randrange(2))))


def random_orders(chance, many):
    """So many dealings, rules and questions."""
    orders = []
    for _ in range(many):
        word = chance.choice(("deed", "deed", "deed", "dealing", "dealing", "rule", "question", "question"))
        if word == "deed":
            orders.append(random_deed_order(chance))
        elif word == "dealing":
            deeds = [random_deed_order(chance) for _ in range(chance.randrange(5))]
            orders += [("begin",)] + deeds + [("end",)]
        else:
            orders.append(random_rule_order(chance) if word == "rule" else random_question(chance))
    return orders


def first_orders(chance):
    """Places a to d, and ties between them: so what comes behind finds something there."""
    places = [("place", name, chance.choice("ppq"), random_fields(chance)) for name in chance.sample("abcd", 4)]
    ties = [("tie", name, chance.choice("ab"), chance.choice("abcd"), chance.choice("abcd"), random_fields(chance))
            for name in "abcdefg"[:chance.randrange(8)]]
    return places + ties


class Answerer:
    """What orders are answered, by the words of the document: with a store, names and rules that are kept apart."""

    def __init__(self):
        self.store, self.places, self.ties, self.rules = Store(), {}, {}, []

    def answers(self, orders):
        found, dealing = [], None
        for order in orders:
            if order[0] == "begin":
                dealing = []
            elif order[0] == "end":
                found.append(self.dealt(dealing))
                dealing = None
            elif order[0] in ("place", "tie", "drop", "cut", "set", "clear"):
                if dealing is None:
                    found.append(self.dealt([order]))
                else:
                    dealing.append(order)
            else:
                found.append(self.ruled(order[1:]) if order[0] == "rule" else self.asked(order))
        return found

    def dealt(self, orders):
        kept = copy.deepcopy((self.store, self.places, self.ties))
        try:
            for order in orders:
                self.do(order)
        except (NoPlace, NoTie, Taken, Tied) as error:
            self.store, self.places, self.ties = kept
            return f"bad {type(error).__name__}"
        for rule in self.rules:
            answer = self.broken(rule)
            if answer:
                self.store, self.places, self.ties = kept
                return answer
        return "done"

    def do(self, order):
        word, name = order[:2]
        if word in ("place", "tie") and name in (self.places if word == "place" else self.ties):
            raise Taken("there is one of that name")
        if word == "place":
            self.places[name] = self.store.add_place(order[2], order[3])
        elif word == "tie":
            start, end = self.place(order[3]), self.place(order[4])
            self.ties[name] = self.store.add_tie(order[2], start, end, order[5])
        elif word == "cut":
            if name not in self.ties:
                raise NoTie("there is none")
            self.store.take_tie(self.ties.pop(name))
        elif word == "drop":
            self.store.take_place(self.place(name))
            del self.places[name]
        else:
            self.store.set_place(self.place(name), order[2], order[3] if word == "set" else None)

    def place(self, name):
        if name not in self.places:
            raise NoPlace("there is none")
        return self.places[name]

    def called(self, place):
        return [name for name in self.places if self.places[name] == place][0]

    def broken(self, rule):
        found = breach(self.store, rule)
        if found is None:
            return None
        if found[0] == "place":
            return f"broken {rule[1]} place {self.called(found[1])}"
        return f"broken {rule[1]} tie {[name for name in self.ties if self.ties[name] == found[1]][0]}"

    def ruled(self, rule):
        if rule[1] in [known[1] for known in self.rules]:
            return "taken"
        answer = self.broken(rule)
        if answer:
            return answer
        self.rules.append(rule)
        return "done"

    def asked(self, order):
        try:
            return getattr(self, order[0])(*order[1:])
        except NoPlace:
            return "bad NoPlace"
        except NoWalk:
            return "none"
        except TooMany:
            return "too many"
        except (Endless, NoEnd):
            return "endless"

    def count(self, one, way, other):
        return str(how_many(self.store, way, self.place(one), self.place(other)))

    def short(self, one, way, other):
        legs, walks = shortest(self.store, way, self.place(one), self.place(other))
        return f"{legs} {len(walks)}"

    def plain(self, one, way, other):
        return str(len(plain_walks(self.store, way, self.place(one), self.place(other))))

    def reach(self, one, way):
        return " ".join(map(self.called, reached(self.store, way, self.place(one)))) or "none"

    def ask(self, names, pattern):
        told = [" ".join(map(self.called, row)) + " x " + str(count) for row, count in ask(self.store, pattern)]
        return " ; ".join(told) or "none"
