"""What the words of a sheet's rows tell: names, values, fields, tests, and rows of these in their forms."""

from webstore.patterns import BOW_SORTS
from webstore.sheetways import way_told
from webstore.values import fields_told, is_name

MOST_FIGURES = 12
MOST_LETTERS = 19


def read_name(words):
    """A NAME."""
    found = words.taken()
    words.need(is_name(found))
    return found


def read_spot_kind(words):
    """A KIND, or None for any."""
    return None if words.takes("?") else read_name(words)


def read_value(words):
    """A VALUE: a NUMBER, or a text behind its sign."""
    word = words.taken()
    if word.startswith("="):
        words.need(is_text(word[1:]))
        return word[1:]
    words.need(is_number_word(word))
    return int(word)


def is_text(letters):
    """Whether these are letters that may stand in a VALUE."""
    return len(letters) <= MOST_LETTERS and all(["a" <= sign <= "z" for sign in letters])


def is_number_word(word):
    """Whether a word is a NUMBER."""
    figures = word[1:] if word.startswith("-") else word
    if not 1 <= len(figures) <= MOST_FIGURES or not all(["0" <= sign <= "9" for sign in figures]):
        return False
    return figures[0] != "0" or word == "0"


def read_fields(words):
    """All that is left of a row, as told fields: F VALUE and so on."""
    fields = {}
    while words.has_more():
        name = read_name(words)
        words.need(name not in fields)
        fields[name] = read_value(words)
    return fields_told(fields)


def read_test(words):
    """A TEST."""
    word = words.taken()
    if word == "any":
        return (word,)
    if word == "has":
        return (word, read_name(words))
    if word in ("is", "under", "over"):
        return (word, read_name(words), read_value(words))
    if word == "not":
        return (word, read_test(words))
    words.need(word in ("both", "either"))
    return (word, read_test(words), read_test(words))


def read_way(words):
    """A WAY."""
    return way_told(words.number, words.taken())


def read_figure(words):
    """A LOW or a HIGH."""
    return words.figure()


def read_field_sort(words):
    """Of which sort a field's values must be."""
    return words.one_of(("number", "text"))


def read_turn(words):
    """A TURN."""
    return words.one_of(("forth", "back"))


def read_bow_sort(words):
    """The sort of a bow."""
    return words.one_of(BOW_SORTS)


READERS = {"name": read_name, "kind": read_spot_kind, "value": read_value, "fields": read_fields, "test": read_test,
           "way": read_way, "figure": read_figure, "turn": read_turn, "field sort": read_field_sort,
           "bow sort": read_bow_sort}


def read_parts(words, form):
    """The tuple of what the words that are left tell, in this form; none may be left behind it."""
    found = []
    for what in form:
        reader = READERS[what]
        found.append(reader(words))
    words.need(not words.has_more())
    return tuple(found)
