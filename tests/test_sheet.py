"""Point 21: sheets, and the orders that their rows tell."""

import random
import re
import unittest

from making import random_way, same_kinds
from sheeting import random_orders, text_of, way_word
from trying import lists_in
from webstore.errors import BadRow
from webstore.patterns import is_pattern
from webstore.rules import is_rule
from webstore.sheet import read_sheet
from webstore.ways import is_way

A = ("step", "a", "forth")
B = ("step", "b", "forth")
C = ("step", "c", "forth")
DEEDS = (("place a k", ("place", "a", "k", ())), ("place abcdefgh k f 1", ("place", "abcdefgh", "k", (("f", 1),))),
         ("place a k g =x f -5 h =", ("place", "a", "k", (("f", -5), ("g", "x"), ("h", "")))),
         ("tie t k a b", ("tie", "t", "k", "a", "b", ())), ("tie t k a a f 1 e =e", ("tie", "t", "k", "a", "a",
                                                                                  (("e", "e"), ("f", 1)))),
         ("drop a", ("drop", "a")), ("cut t", ("cut", "t")), ("set a f 7", ("set", "a", "f", 7)),
         ("set a f =seven", ("set", "a", "f", "seven")), ("clear a f", ("clear", "a", "f")))
RULES = (("rule field r k f number", ("rule", "field", "r", "k", "f", "number")),
         ("rule field r k f text", ("rule", "field", "r", "k", "f", "text")),
         ("rule ends r k p q", ("rule", "ends", "r", "k", "p", "q")),
         ("rule alone r k f", ("rule", "alone", "r", "k", "f")),
         ("rule many r k t forth 0 6", ("rule", "many", "r", "k", "t", "forth", 0, 6)),
         ("rule many r k t back 3 3", ("rule", "many", "r", "k", "t", "back", 3, 3)),
         ("rule ringless r a*", ("rule", "ringless", "r", ("again", A))))
QUESTIONS = (("count a a b", ("count", "a", A, "b")), ("short a a|b b", ("short", "a", ("or", A, B), "b")),
             ("plain x a< x", ("plain", "x", ("step", "a", "back"), "x")), ("reach a ?", ("reach", "a", ("step", None, "forth"))))
ASKING = ("ask", "spot x ? any", "spot y k has f", "bow x all y a", "unlike x y", "same x f y g", "less y f x g", "go")
ASKED = ("ask", ("x", "y"), (((None, ("any",)), ("k", ("has", "f"))), ((0, 1, "all", A),),
                             (("unlike", 0, 1), ("same", 0, "f", 1, "g"), ("under", 1, "f", 0, "g"))))
SINGLE = DEEDS + RULES + QUESTIONS


class SheetCase(unittest.TestCase):
    def told(self, text, orders):
        for _ in range(2):
            told = read_sheet(text)
            self.assertTrue(same_kinds(told, orders), (text, told, orders))

    def bad(self, text, row):
        for _ in range(2):
            with self.assertRaises(BadRow, msg=text) as caught:
                read_sheet(text)
            self.assertIs(type(caught.exception), BadRow)
            self.assertTrue(same_kinds(caught.exception.row, row), (text, caught.exception.row, row))

    def bad_row(self, row):
        """A row that can't stand wherever rows of its sort may, be it the first or a later one."""
        self.bad(row, 0)
        self.bad(f"drop a\n\n{row}\ndrop a\ndrop", 2)

    def bad_asking_row(self, row):
        """A row that can't stand behind the spots x and y."""
        self.bad("\n".join(ASKING[:3] + (row, "go")), 3)

    def way(self, word, way):
        self.assertIs(is_way(way), True, way)
        self.told(f"reach x {word}", [("reach", "x", way)])
        self.told(f"count x {word} y", [("count", "x", way, "y")])
        self.told(f"rule ringless x {word}", [("rule", "ringless", "x", way)])
        self.told(f"ask\nspot x ? any\nbow x any x {word}\ngo",
                  [("ask", ("x",), (((None, ("any",)),), ((0, 0, "any", way),), ()))])

    def bad_way(self, word):
        for row in ("reach x {}", "count x {} y", "short x {} y", "plain x {} y", "rule ringless x {}"):
            self.bad_row(row.replace("{}", word, 1))
        self.bad_asking_row(f"bow x any y {word}")


class Orders(SheetCase):
    def test_each_row_as_an_order(self):
        for text, order in SINGLE:
            self.told(text, [order])
            if order[0] == "rule":
                self.assertIs(is_rule(order[1:]), True)

    def test_an_asking(self):
        self.assertIs(is_pattern(ASKED[2]), True)
        self.told("\n".join(ASKING), [ASKED])

    def test_all_of_them_in_their_order(self):
        rows = [text for text, _ in SINGLE] + list(ASKING) + ["begin"] + [text for text, _ in DEEDS] + ["end", "drop a"]
        orders = [order for _, order in SINGLE] + [ASKED, ("begin",)] + [order for _, order in DEEDS]
        self.told("\n".join(rows), orders + [("end",), ("drop", "a")])
        self.told("\n".join(rows[::-1][:1]), [("drop", "a")])

    def test_dealings(self):
        self.told("begin\nend", [("begin",), ("end",)])
        self.told("begin\nend\nbegin\ndrop a\nend", [("begin",), ("end",), ("begin",), ("drop", "a"), ("end",)])
        for text, order in DEEDS:
            self.told(f"begin\n{text}\n{text}\nend\n{text}", [("begin",), order, order, ("end",), order])

    def test_words_may_be_names(self):
        self.told("place place place place 1", [("place", "place", "place", (("place", 1),))])
        self.told("tie go end ask begin any =any", [("tie", "go", "end", "ask", "begin", (("any", "any"),))])
        self.told("count count count count", [("count", "count", ("step", "count", "forth"), "count")])
        self.told("rule many many many many back 0 1", [("rule", "many", "many", "many", "many", "back", 0, 1)])
        self.told("ask\nspot go spot is is =is\nspot all any not any\nbow go all all any\nless go go all all\ngo",
                  [("ask", ("go", "all"), ((("spot", ("is", "is", "is")), ("any", ("not", ("any",)))),
                                           ((0, 1, "all", ("step", "any", "forth")),), (("under", 0, "go", 1, "all"),)))])


class Blanks(SheetCase):
    def test_texts_without_words(self):
        for text in ("", " ", "     ", "\n", "\n\n\n", "  \n \n   "):
            self.told(text, [])

    def test_blanks_at_the_ends_and_between(self):
        for text, order in SINGLE:
            self.told("  " + text, [order])
            self.told(text + "   ", [order])
            self.told("    " + text.replace(" ", "   ") + " ", [order])
        self.told("\n".join("  " + row.replace(" ", "    ") + " " for row in ASKING), [ASKED])

    def test_rows_without_words_anywhere(self):
        self.told("\n \n" + "\n\n   \n".join(ASKING) + "\n", [ASKED])
        self.told("\nbegin\n\ndrop a\n  \nend\n", [("begin",), ("drop", "a"), ("end",)])

    def test_a_text_that_ends_with_a_line_feed(self):
        self.told("drop a\n", [("drop", "a")])
        self.told("drop a\n\n", [("drop", "a")])


class Values(SheetCase):
    def value(self, word, value):
        self.told(f"place a k f {word}", [("place", "a", "k", (("f", value),))])
        self.told(f"tie t k a b f {word}", [("tie", "t", "k", "a", "b", (("f", value),))])
        self.told(f"set a f {word}", [("set", "a", "f", value)])
        for test in ("is", "under", "over"):
            self.told(f"ask\nspot x ? {test} f {word}\ngo", [("ask", ("x",), (((None, (test, "f", value)),), (), ()))])

    def bad_value(self, word):
        for row in ("place a k f {}", "place a k f {} g 1", "tie t k a b f {}", "set a f {}"):
            self.bad_row(row.replace("{}", word))
        for row in ("spot z ? is f {}", "spot z ? under f {}", "spot z ? not over f {}", "spot z ? both any is f {}"):
            self.bad_asking_row(row.replace("{}", word))

    def test_numbers(self):
        for word, value in (("0", 0), ("1", 1), ("-1", -1), ("9", 9), ("10", 10), ("-10", -10), ("999999999999", 10 ** 12 - 1),
                            ("-999999999999", 1 - 10 ** 12), ("100000000000", 10 ** 11), ("-100000000000", -10 ** 11)):
            self.value(word, value)

    def test_numbers_that_are_none(self):
        for word in ("00", "01", "-0", "-00", "-01", "1000000000000", "-1000000000000", "0000000000000", "-", "--1", "+1",
                     "1-", "1.0", "1_0", "1e5", "0x1", "1a", "a1", "a", "'1'", '"1"', "(1)", "1,2"):
            self.bad_value(word)

    def test_texts(self):
        for text in ("", "a", "z", "any", "abcdefghijklmnopqrs", "zzzzzzzzzzzzzzzzzzz"):
            self.value("=" + text, text)

    def test_texts_that_are_none(self):
        for word in ("=abcdefghijklmnopqrst", "=A", "=aB", "=Ab", "=a1", "=1", "==", "=a=", "=-1", "=a_b", "=a.", "=`", "={",
                     "a=", "text"):
            self.bad_value(word)

    def test_fields_as_told_pairs(self):
        self.told("place a k c 3 a =x b 1", [("place", "a", "k", (("a", "x"), ("b", 1), ("c", 3)))])
        self.told("tie t k a b z 1 y 2", [("tie", "t", "k", "a", "b", (("y", 2), ("z", 1)))])
        names = [first + second for first in "abcd" for second in "vwxyz"]
        text = " ".join(f"{name} {at}" for at, name in enumerate(names[::-1]))
        self.told(f"place a k {text}", [("place", "a", "k", tuple((name, 19 - at) for at, name in enumerate(names)))])

    def test_one_field_twice(self):
        for fields in ("f 1 f 1", "f 1 f 2", "f 1 g 2 f =x", "g 1 f 1 f 1"):
            self.bad_row(f"place a k {fields}")
            self.bad_row(f"tie t k a b {fields}")
        self.told("place f f f 1", [("place", "f", "f", (("f", 1),))])


class Names(SheetCase):
    def test_names_that_are_none(self):
        for name in ("A", "aB", "abcdefghi", "a1", "1", "0", "=a", "a-b", "a_b", "?", "()", "a,b", "a|b", "a*", "*", "-"):
            for row in ("place {} k", "place a {}", "place a k {} 1", "tie {} k a b", "tie t {} a b", "tie t k {} b",
                        "tie t k a {}", "tie t k a b {} 1", "drop {}", "cut {}", "set {} f 1", "set a {} 1", "clear {} f",
                        "clear a {}", "rule field {} k f text", "rule field r {} f text", "rule field r k {} text",
                        "rule ends {} k p q", "rule ends r {} p q", "rule ends r k {} q", "rule ends r k p {}",
                        "rule alone {} k f", "rule alone r {} f", "rule alone r k {}", "rule many {} k t back 0 1",
                        "rule many r {} t back 0 1", "rule many r k {} back 0 1", "rule ringless {} a", "count {} a b",
                        "count a a {}", "short {} a b", "short a a {}", "plain {} a b", "plain a a {}", "reach {} a"):
                self.bad_row(row.replace("{}", name))
            for row in ("spot {} ? any", "spot z ? has {}", "spot z ? is {} 1", "spot z ? under {} 1", "spot z ? over {} 1",
                        "bow {} all x a", "bow x all {} a", "unlike {} x", "unlike x {}", "same {} f y g", "same x {} y g",
                        "same x f {} g", "same x f y {}", "less {} f y g", "less x {} y g", "less x f {} g", "less x f y {}"):
                self.bad_asking_row(row.replace("{}", name))
            if name != "?":
                self.bad_asking_row(f"spot z {name} any")

    def test_words_of_a_choice_that_are_none(self):
        for sort in ("Number", "numbers", "texts", "value", "any", "1"):
            self.bad_row(f"rule field r k f {sort}")
        for turn in ("either", "Forth", "both", "to", "0"):
            self.bad_row(f"rule many r k t {turn} 0 1")
        for word in ("never", "fields", "lone", "Field", "ring", "rule", "1"):
            self.bad_row(f"rule {word} r k f text")
            self.bad_row(f"rule {word} r a")
        for sort in ("every", "shortest", "All", "walk", "x", "1"):
            self.bad_asking_row(f"bow x {sort} y a")

    def test_unknown_rows(self):
        for row in ("Place a k", "places a k", "a", "?", "1", "add a", "ask a", "asks", "begin a", "begin begin", "remove a",
                    "PLACE a k", "end", "end end", "go", "rule", "#", "# drop a", "drop,a", "drop=a", "under x f y g",
                    "never r"):
            self.bad_row(row)

    def test_low_and_high_of_many(self):
        for low in range(7):
            for high in range(7):
                text = f"rule many r k t back {low} {high}"
                if low <= high:
                    self.told(text, [("rule", "many", "r", "k", "t", "back", low, high)])
                else:
                    self.bad_row(text)
        for word in ("7", "8", "9", "10", "00", "01", "-1", "-0", "=", "a", "06", "0-1", "1.0"):
            self.bad_row(f"rule many r k t back {word} 6")
            self.bad_row(f"rule many r k t back 0 {word}")


def another_spot(row):
    """The row of a spot with a name that isn't borne yet; another row as it is."""
    return row.replace("spot x", "spot z").replace("spot y", "spot z")


class Lengths(SheetCase):
    def test_a_word_too_few(self):
        for text, _ in SINGLE:
            words = text.split(" ")
            if words[0] not in ("place", "tie"):
                for at in range(1, len(words)):
                    self.bad_row(" ".join(words[:at] + words[at + 1:]))
        for row in ("place", "place a", "place a k f", "place a k 1", "place a k f 1 g", "place a k f g 1", "tie", "tie t",
                    "tie t k", "tie t k a", "tie t k a b f", "tie t k a f 1", "rule", "rule field"):
            self.bad_row(row)
        for row in ASKING[1:-1]:
            words = another_spot(row).split(" ")
            for at in range(1, len(words)):
                self.bad_asking_row(" ".join(words[:at] + words[at + 1:]))

    def test_a_word_too_many(self):
        for text, _ in SINGLE:
            for more in ("a", "1", "=", "any", "f 1 g"):
                if text.split(" ")[0] in ("place", "tie") and more == "f 1 g":
                    more = "y 1 z"
                self.bad_row(f"{text} {more}")
        for row in ASKING[1:-1]:
            for more in ("a", "1", "=", "any", "f 1", "x"):
                self.bad_asking_row(f"{another_spot(row)} {more}")
        self.bad_row("begin a")
        self.bad("begin\nend a", 1)
        self.bad("ask\nspot x ? any\ngo a", 2)
        self.bad_row("ask a")

    def test_a_way_is_one_word(self):
        for word in ("a , b", "a ,b", "a, b", "a | b", "a *", "( a )", "a {0-1}", "a{0 -1}", "a{0- 1}", "a <", "( )"):
            self.bad_row(f"reach x {word}")
            self.bad_row(f"count x {word} y")


class Ways(SheetCase):
    def test_atoms(self):
        for word, way in (("a", A), ("a<", ("step", "a", "back")), ("a^", ("step", "a", "either")),
                          ("?", ("step", None, "forth")), ("?<", ("step", None, "back")), ("?^", ("step", None, "either")),
                          ("abcdefgh", ("step", "abcdefgh", "forth")), ("zzzzzzzz^", ("step", "zzzzzzzz", "either")),
                          ("()", ("empty",)), ("(a)", A), ("((a<))", ("step", "a", "back")), ("(())", ("empty",))):
            self.way(word, way)

    def test_from_the_left_on(self):
        for word, way in (("a|b", ("or", A, B)), ("a|b|c", ("or", ("or", A, B), C)), ("a|(b|c)", ("or", A, ("or", B, C))),
                          ("a,b", ("then", A, B)), ("a,b,c", ("then", ("then", A, B), C)),
                          ("a,(b,c)", ("then", A, ("then", B, C))), ("(a,b),c", ("then", ("then", A, B), C)),
                          ("a,b|c", ("or", ("then", A, B), C)), ("a|b,c", ("or", A, ("then", B, C))),
                          ("a|b,c|a", ("or", ("or", A, ("then", B, C)), A)), ("(a|b),c", ("then", ("or", A, B), C)),
                          ("a,(b|c)", ("then", A, ("or", B, C))), ("a|b|c|a", ("or", ("or", ("or", A, B), C), A)),
                          ("a,b,c,a", ("then", ("then", ("then", A, B), C), A)), ("(),a", ("then", ("empty",), A)),
                          ("a|()", ("or", A, ("empty",))), ("a,b|c,a", ("or", ("then", A, B), ("then", C, A)))):
            self.way(word, way)

    def test_again_and_many(self):
        for word, way in (("a*", ("again", A)), ("a<*", ("again", ("step", "a", "back"))), ("?^*", ("again", ("step", None, "either"))),
                          ("()*", ("again", ("empty",))), ("(a)*", ("again", A)), ("(a|b)*", ("again", ("or", A, B))),
                          ("(a,b)*", ("again", ("then", A, B))), ("(a*)*", ("again", ("again", A))),
                          ("a,b*", ("then", A, ("again", B))), ("a*,b", ("then", ("again", A), B)), ("a|b*", ("or", A, ("again", B))),
                          ("a*|b", ("or", ("again", A), B)), ("a{0-6}", ("many", A, 0, 6)), ("a<{2-2}", ("many", ("step", "a", "back"), 2, 2)),
                          ("?{1-3}", ("many", ("step", None, "forth"), 1, 3)), ("(){0-0}", ("many", ("empty",), 0, 0)),
                          ("(a|b){1-2}", ("many", ("or", A, B), 1, 2)), ("(a{1-2}){3-4}", ("many", ("many", A, 1, 2), 3, 4)),
                          ("(a*){0-1}", ("many", ("again", A), 0, 1)), ("(a{0-1})*", ("again", ("many", A, 0, 1))),
                          ("a,b{0-1}", ("then", A, ("many", B, 0, 1))), ("a{0-1},b", ("then", ("many", A, 0, 1), B)),
                          ("a{0-1}|b", ("or", ("many", A, 0, 1), B))):
            self.way(word, way)

    def test_low_and_high(self):
        for low in range(7):
            for high in range(7):
                if low <= high:
                    self.way(f"a{{{low}-{high}}}", ("many", A, low, high))
                else:
                    self.bad_way(f"a{{{low}-{high}}}")

    def test_one_of_each_alone_for_a_bit(self):
        for word in ("a**", "a*{0-1}", "a{0-1}*", "a{0-1}{0-1}", "(a)**", "(a){0-1}*", "a<<", "a<^", "a^<", "a^^", "a*<", "a*^",
                     "a{0-1}<", "?<^", "()<", "()^", "(a)<", "(a)^", "(a|b)<", "a***"):
            self.bad_way(word)

    def test_brackets(self):
        self.way("(" * 10 + "a" + ")" * 10, A)
        self.way("(" * 9 + "()" + ")" * 9, ("empty",))
        way, word = A, "a"
        for _ in range(10):
            way, word = ("then", B, way), f"b,({word})"
        self.way(word, way)
        way, word = A, "a"
        for at in range(10):
            way, word = ("or", way, C), f"({word})|c"
        self.way(word, way)
        for word in ("(a", "a)", "((a)", "(a))", "(", ")", ")(", "())", "(()", "(a|b", "(a,b", "a|b)", "(a*", "a(b)", "(a)b", "(a)(b)",
                     "()()", "a()", "()a", "[a]", "(a]", "(a{0-1}", "(" * 10 + "a" + ")" * 9, "(" * 9 + "a" + ")" * 10):
            self.bad_way(word)

    def test_an_empty_part(self):
        for word in ("|", ",", "a|", "|a", "a,", ",a", "a||b", "a,,b", "a|,b", "a,|b", "(|)", "(,)", "(a|)", "(,a)", "*", "<", "^",
                     "{0-1}", "a|*", "a,*", "(*)", "a|{0-1}", "(|a)*", "()|", ",()"):
            self.bad_way(word)

    def test_bounds_that_are_none(self):
        for word in ("a{", "a}", "a{}", "a{1}", "a{-}", "a{1-}", "a{-1}", "a{0-7}", "a{7-7}", "a{00-1}", "a{0-01}", "a{0-10}", "a{a-b}",
                     "a{0,1}", "a{0-1", "a0-1}", "a{0--1}", "a{0-1-2}", "a{ 0-1}", "a{0-1}}", "a{{0-1}", "{0-1}a", "a(0-1)"):
            if " " not in word:
                self.bad_way(word)

    def test_kinds_that_are_none(self):
        for word in ("A", "aB", "abcdefghi", "abcdefghi<", "a|abcdefghi", "abcdefghi|a", "a1", "1", "?a", "a?", "??", "=a", "-", "a-b",
                     "a.b", "a_b", "a+", "a'", "^a", "<a", ">a", "a>"):
            self.bad_way(word)

    def test_by_chance(self):
        chance = random.Random(121)
        for count in range(400):
            way = random_way(chance, 1 + count % 12, kinds=("a", "b", "abcdefgh", None))
            self.told(f"reach x {way_word(way)}", [("reach", "x", way)])
            self.told(f"count x {way_word(way, chance)} y", [("count", "x", way, "y")])

    def test_spoiled_by_chance(self):
        # A word is taken just where it is one that some way is told by, found by taking it apart from outside.
        chance = random.Random(122)
        seen = []
        for _ in range(3000):
            word = way_word(random_way(chance, chance.randrange(1, 5), kinds=("a", None)), chance)
            at = chance.randrange(len(word) + 1)
            word = word[:at] + chance.choice(("", *"a?<^*|,(){}-017")) + word[at + chance.randrange(2):]
            if not word:
                continue
            seen.append(is_way_word(word))
            if seen[-1]:
                self.assertIs(is_way(read_sheet(f"reach x {word}")[0][2]), True)
            else:
                self.bad(f"reach x {word}", 0)
        self.assertGreater(seen.count(True), 300)
        self.assertGreater(seen.count(False), 300)


def is_way_word(word):
    """Whether a word tells a way, found by rubbing out what is whole: an ATOM becomes @, and so does what it makes."""
    word = re.sub(r"(?<![a-z])[a-z]{1,8}(?![a-z])[<^]?|\?[<^]?|\(\)", "@", word)
    shorter = ""
    while shorter != word:
        shorter = word
        word = re.sub(r"\(@([|,]@)*\)", "@", without_bounds(word))
    return re.fullmatch(r"@([|,]@)*", word) is not None and "@@" not in word


def without_bounds(word):
    """A word with each ATOM and the sign behind it as a BIT, which nothing may follow but a sign between."""
    word = re.sub(r"@\*(?![*{])", "@!", word)
    word = re.sub(r"@\{([0-6])-([0-6])\}(?![*{])", lambda m: "@!" if m[1] <= m[2] else "#", word)
    return re.sub(r"@!(?=$|[|,)])", "@", word)


class Tests(SheetCase):
    def word(self, words, wanted):
        self.told(f"ask\nspot x ? {words}\ngo", [("ask", ("x",), (((None, wanted),), (), ()))])
        self.told(f"ask\nspot x k {words}\ngo", [("ask", ("x",), ((("k", wanted),), (), ()))])

    def test_all_words(self):
        for words, wanted in (("any", ("any",)), ("has f", ("has", "f")), ("is f 1", ("is", "f", 1)), ("is f =", ("is", "f", "")),
                              ("under f -1", ("under", "f", -1)), ("over f =x", ("over", "f", "x")), ("not any", ("not", ("any",))),
                              ("both any has f", ("both", ("any",), ("has", "f"))),
                              ("either is f 1 has g", ("either", ("is", "f", 1), ("has", "g")))):
            self.word(words, wanted)

    def test_several_deep(self):
        for words, wanted in (("not not not any", ("not", ("not", ("not", ("any",))))),
                              ("both both any any any", ("both", ("both", ("any",), ("any",)), ("any",))),
                              ("both any both any any", ("both", ("any",), ("both", ("any",), ("any",)))),
                              ("either not has f both is g =x over h 3",
                               ("either", ("not", ("has", "f")), ("both", ("is", "g", "x"), ("over", "h", 3)))),
                              ("both either has a has b either has c has d",
                               ("both", ("either", ("has", "a"), ("has", "b")), ("either", ("has", "c"), ("has", "d"))))):
            self.word(words, wanted)
        wanted, words = ("any",), "any"
        for at in range(10):
            wanted, words = (("not", wanted), f"not {words}") if at % 2 else (("both", ("has", "f"), wanted), f"both has f {words}")
        self.word(words, wanted)

    def test_tests_that_are_none(self):
        for words in ("", "all", "all any any", "neither has f any", "and any has f", "both or any any any", "Any", "any any", "has", "has f g", "has 1", "is", "is f", "is f g", "is f 1 2", "under f", "over 1",
                      "not", "not f", "not any any", "both", "both any", "both any any any", "either any", "either", "both any f",
                      "f", "1", "=f", "is f =A", "is =f f", "not both any", "(any)", "same f g", "less f 1", "either has f has"):
            self.bad_asking_row(f"spot z ? {words}")
            self.bad_asking_row(f"spot z k {words}")


class Asking(SheetCase):
    def test_rows_in_any_order_behind_their_spots(self):
        rows = ("ask", "spot b q any", "unlike b b", "spot a ? any", "bow b short a a*", "less a f b g", "bow a plain a ()", "spot c p any",
                "same c f b g", "bow c any b ?", "unlike a c", "go")
        self.told("\n".join(rows), [("ask", ("b", "a", "c"), (
            (("q", ("any",)), (None, ("any",)), ("p", ("any",))),
            ((0, 1, "short", ("again", A)), (1, 1, "plain", ("empty",)), (2, 0, "any", ("step", None, "forth"))),
            (("unlike", 0, 0), ("under", 1, "f", 0, "g"), ("same", 2, "f", 0, "g"), ("unlike", 1, 2))))])

    def test_spots_alone(self):
        self.told("ask\nspot x ? any\ngo", [("ask", ("x",), (((None, ("any",)),), (), ()))])
        names = tuple("abcde")
        text = "\n".join(["ask"] + [f"spot {name} k any" for name in names] + ["go"])
        self.told(text, [("ask", names, ((("k", ("any",)),) * 5, (), ()))])

    def test_each_sort_of_bow(self):
        for sort in ("all", "short", "plain", "any"):
            self.told(f"ask\nspot x ? any\nbow x {sort} x a\ngo",
                      [("ask", ("x",), (((None, ("any",)),), ((0, 0, sort, A),), ()))])

    def test_askings_one_behind_the_other(self):
        text = "\n".join(ASKING)
        self.told(f"{text}\n{text}\ndrop x\n{text}", [ASKED, ASKED, ("drop", "x"), ASKED])
        # Names of one asking aren't known in the next one.
        self.bad(f"{text}\nask\nunlike x y\ngo", 9)

    def test_spots_named_ahead_of_their_rows(self):
        for row in ("bow x all z a", "bow z all x a", "bow z any z a", "unlike x z", "unlike z x", "same x f z f", "same z f x f",
                    "less z f x f", "less x f z f"):
            self.bad_asking_row(row)
            self.bad("\n".join(ASKING[:3] + (row, "spot z ? any", "go")), 3)
            self.told("\n".join(ASKING[:3] + ("spot z ? any", row, "go")), read_sheet(
                "\n".join(ASKING[:3] + ("spot z ? any", row, "", "go"))))
        self.bad("ask\nunlike x x\nspot x ? any\ngo", 1)

    def test_a_name_twice(self):
        for row in ("spot x ? any", "spot y ? any", "spot x k has f"):
            self.bad_asking_row(row)

    def test_no_spot_at_all(self):
        self.bad("ask\ngo", 1)
        self.bad("drop a\nask\n\n\ngo\nask", 4)

    def test_what_can_not_stand_in_an_asking(self):
        for row in [text for text, _ in SINGLE] + ["begin", "end", "ask", "rule", "x", "under x f y f", "pair x y", "go go", "go x"]:
            self.bad_asking_row(row)
            self.bad(f"ask\n{row}", 1)

    def test_what_can_not_stand_outside(self):
        for row in ASKING[1:]:
            self.bad_row(row)
            self.bad("\n".join(ASKING + (row,)), 8)
            self.bad(f"begin\n{row}\nend", 1)


class Dealings(SheetCase):
    def test_begin_within_begin(self):
        self.bad("begin\nbegin\nend\nend", 1)
        self.bad("begin\ndrop a\nbegin\nend", 2)

    def test_end_without_begin(self):
        self.bad("end", 0)
        self.bad("begin\nend\nend", 2)
        self.bad("drop a\nend", 1)

    def test_nothing_but_deeds_between(self):
        for row in [text for text, _ in RULES + QUESTIONS] + ["ask", "go", "x", "spot x ? any"]:
            self.bad(f"begin\n{row}\nend", 1)
            self.bad(f"begin\ndrop a\n\n{row}\nend", 3)
            self.bad(f"begin\n{row}", 1)


class Unended(SheetCase):
    def test_end_that_never_comes(self):
        self.bad("begin", 1)
        self.bad("begin\n", 2)
        self.bad("begin\ndrop a\n\n  \n", 5)
        self.bad("drop a\nbegin\ndrop b", 3)
        self.bad("begin\nend\nbegin\ndrop a", 4)

    def test_go_that_never_comes(self):
        self.bad("ask", 1)
        self.bad("ask\n", 2)
        self.bad("ask\nspot x ? any", 2)
        self.bad("\n".join(ASKING[:-1]), 7)
        self.bad("\n".join(ASKING[:-1]) + "\n\n", 9)

    def test_the_first_row_that_can_not_stand(self):
        self.bad("drop\nend\nbegin", 0)
        self.bad("drop a\n\n   \ndrop\nend", 3)
        self.bad("begin\ndrop A\nask", 1)
        self.bad("ask\nspot x ? any\nbow x all y a\nspot x ? any", 2)
        self.bad("\n\n\nx", 3)
        self.bad("place a k f 1 f 1\nplace", 0)


class Whole(SheetCase):
    def test_told_back_by_chance(self):
        chance = random.Random(123)
        for _ in range(250):
            orders = random_orders(chance, chance.randrange(12))
            self.told(text_of(orders), orders)
            self.told(text_of(orders, chance), orders)

    def test_a_row_left_out_or_spoiled_by_chance(self):
        chance = random.Random(124)
        for _ in range(300):
            rows = text_of(random_orders(chance, 6), chance).split("\n")
            at = chance.randrange(len(rows))
            rows[at] = chance.choice(("x", "drop A", "place a", "rule", "ask ask", "count a b", "begin end", "spot x", "? ?"))
            self.bad("\n".join(rows), at)

    def test_as_large_as_they_may_be(self):
        text = "\n".join(["place abcdefgh k f 1 g =ab"] * 120)
        self.told(text, [("place", "abcdefgh", "k", (("f", 1), ("g", "ab")))] * 120)
        text = "\n".join(["begin"] + ["drop a"] * 118 + ["end"])
        self.told(text, [("begin",)] + [("drop", "a")] * 118 + [("end",)])
        self.told("reach x " + ",".join("a" * 8 for _ in range(6)), [("reach", "x", read_sheet(
            "reach x " + "(" * 4 + "aaaaaaaa,aaaaaaaa),aaaaaaaa),aaaaaaaa),aaaaaaaa),aaaaaaaa")[0][2])])

    def test_what_is_told_is_the_asker_s_own(self):
        text = "\n".join([row for row, _ in SINGLE] + list(ASKING))
        first, second = read_sheet(text), read_sheet(text)
        self.assertEqual((lists_in(first), lists_in(second)), ([first], [second]))
        self.assertIsNot(first, second)
        kept = list(first)
        first.clear()
        self.assertEqual(second, kept)
        self.assertEqual(read_sheet(text), kept)
        self.assertIsNot(read_sheet(""), read_sheet(""))


if __name__ == "__main__":
    unittest.main()
