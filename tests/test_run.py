"""Point 22: what a sheet is answered."""

import random
import unittest

from making import same_kinds
from sheeting import Answerer, first_orders, random_orders, text_of
from webstore.errors import BadRow
from webstore.run import run
from webstore.sheet import read_sheet

TOWNS = "\n".join(("place a town high 5", "place b town high 7", "place c hut", "tie ab rail a b", "tie bc rail b c",
                   "tie cc path c c"))
ROW = "\n".join(("place c p", "place a p", "place b p", "tie ca k c a", "tie ab k a b", "tie mab k a b"))


class RunCase(unittest.TestCase):
    def told(self, text, answers):
        for _ in range(2):
            told = run(text)
            self.assertTrue(same_kinds(told, answers), (text, told, answers))

    def behind(self, sheet, rows, answers):
        """The answers behind those of a sheet that is all done."""
        ahead = run(sheet)
        self.assertEqual(set(ahead), {"done"})
        self.told("\n".join([sheet] + list(rows)), ahead + answers)


class Dealings(RunCase):
    def test_nothing_to_answer(self):
        for text in ("", "\n", "  \n \n"):
            self.told(text, [])

    def test_each_deed_is_one_dealing(self):
        self.told(TOWNS, ["done"] * 6)
        self.behind(TOWNS, ["set a high =x", "clear a high", "clear a high", "cut ab", "drop a"], ["done"] * 5)

    def test_deeds_between_begin_and_end_are_one(self):
        self.told("begin\nend", ["done"])
        self.told(f"begin\n{TOWNS}\nend", ["done"])
        self.told(f"place z p\nbegin\n{TOWNS}\nend\ndrop z", ["done"] * 3)
        self.told("begin\nplace a p\nend\nbegin\nend\nbegin\ndrop a\nend", ["done"] * 3)

    def test_what_deeds_do(self):
        asks = ["ask", "spot x ? is f =x", "go"]
        self.told("\n".join(["place a p f =x", "place b p f 1"] + asks + ["set b f =x", "clear a f"] + asks + ["drop b"] + asks),
                  ["done", "done", "a x 1", "done", "done", "b x 1", "done", "none"])
        self.behind(TOWNS, ["count a rail c", "count a rail,rail c", "cut bc", "count a rail,rail c", "tie bc rail b b",
                            "count a rail,rail b"], ["0", "1", "done", "0", "done", "1"])

    def test_bad_with_each_word(self):
        self.behind(TOWNS, ["drop z"], ["bad NoPlace"])
        self.behind(TOWNS, ["drop ab"], ["bad NoPlace"])
        self.behind(TOWNS, ["set z f 1"], ["bad NoPlace"])
        self.behind(TOWNS, ["clear z f"], ["bad NoPlace"])
        self.behind(TOWNS, ["tie z k z a"], ["bad NoPlace"])
        self.behind(TOWNS, ["tie z k a z"], ["bad NoPlace"])
        self.behind(TOWNS, ["cut z"], ["bad NoTie"])
        self.behind(TOWNS, ["cut a"], ["bad NoTie"])
        self.behind(TOWNS, ["drop a"], ["bad Tied"])
        self.behind(TOWNS, ["drop b"], ["bad Tied"])
        self.behind(TOWNS, ["drop c"], ["bad Tied"])
        self.behind(TOWNS, ["place a town"], ["bad Taken"])
        self.behind(TOWNS, ["tie ab rail a b"], ["bad Taken"])
        self.told("drop a\ncut a\nset a f 1\ntie t k a a", ["bad NoPlace", "bad NoTie", "bad NoPlace", "bad NoPlace"])

    def test_taken_goes_ahead_of_no_place(self):
        self.behind(TOWNS, ["tie ab rail z a", "tie ab rail a z", "tie ab rail z z"], ["bad Taken"] * 3)
        self.behind(TOWNS, ["tie z rail z a"], ["bad NoPlace"])

    def test_a_place_and_a_tie_of_one_name(self):
        self.told("place a p\ntie a k a a\ntie a k a a\nplace a p\ncut a\ndrop a\nreach a ()",
                  ["done", "done", "bad Taken", "bad Taken", "done", "done", "bad NoPlace"])
        self.told("place a p\ntie a k a a\ndrop a\ncut a\ncut a\ndrop a\ndrop a",
                  ["done", "done", "bad Tied", "done", "bad NoTie", "done", "bad NoPlace"])

    def test_a_name_is_free_again_when_what_bore_it_is_gone(self):
        self.told("place a p f 1\ndrop a\nplace a q\nask\nspot x q any\ngo\nask\nspot x p any\ngo",
                  ["done", "done", "done", "a x 1", "none"])
        self.told("place a p\ntie t k a a\ncut t\ntie t m a a\ncount a k a\ncount a m a", ["done"] * 4 + ["0", "1"])
        self.told("begin\nplace a p\ndrop a\nplace a q\ntie t k a a\ncut t\ntie t m a a\nend\ncount a m a\ncount a k a\nask\n"
                  "spot x q any\ngo", ["done", "1", "0", "a x 1"])

    def test_names_made_in_the_dealing(self):
        self.told("begin\nplace a p\nplace b p\ntie t k a b\nset b f 1\nend\ncount a k b", ["done", "1"])
        self.told("begin\ntie t k a a\nplace a p\nend", ["bad NoPlace"])
        self.told("begin\nset a f 1\nplace a p\nend", ["bad NoPlace"])
        self.told("begin\nplace a p\nplace a p\nend", ["bad Taken"])
        self.told("begin\nplace a p\ntie t k a a\ntie t k a a\nend", ["bad Taken"])
        self.told("begin\nplace a p\ndrop a\nset a f 1\nend", ["bad NoPlace"])
        self.told("begin\nplace a p\ntie t k a a\ncut t\ncut t\nend", ["bad NoTie"])
        self.told("begin\nplace a p\ntie t k a a\ndrop a\nend", ["bad Tied"])

    def test_the_first_refused_deed_decides(self):
        self.behind(TOWNS, ["begin", "cut z", "drop z", "end"], ["bad NoTie"])
        self.behind(TOWNS, ["begin", "drop z", "cut z", "end"], ["bad NoPlace"])
        self.behind(TOWNS, ["begin", "drop a", "place a town", "end"], ["bad Tied"])
        self.behind(TOWNS, ["begin", "place a town", "drop a", "end"], ["bad Taken"])
        self.behind(TOWNS, ["begin", "set a f 1", "cut ab", "drop a", "place a hut", "tie x k a z", "tie x k a a", "end"],
                    ["bad NoPlace"])

    def test_a_refused_dealing_leaves_all_as_it_was(self):
        rows = ["begin", "place z p", "tie zz k z z", "cut ab", "drop a", "set b high 9", "drop b", "end", "reach z ()", "cut zz",
                "count a rail b", "ask", "spot x town has high", "spot y town over high 8", "go", "place z p", "tie zz k z z",
                "place a p"]
        self.behind(TOWNS, rows, ["bad Tied", "bad NoPlace", "bad NoTie", "1", "none", "done", "done", "bad Taken"])

    def test_the_names_are_as_they_were_behind_a_broken_one(self):
        rows = ["rule ringless r rail*", "begin", "place z p", "tie zz rail b a", "cut bc", "end", "drop z", "cut zz",
                "tie bc rail a b", "tie zz rail a c", "place z p"]
        self.behind(TOWNS, rows, ["done", "broken r place a", "bad NoPlace", "bad NoTie", "bad Taken", "done", "done"])

    def test_numbers_that_come_next_are_as_they_were(self):
        # Names are told in the order of the places' numbers, so z, which was made first, goes ahead.
        self.told("begin\nplace x p\nplace y p\ncut no\nend\nplace z p\nplace a p\ntie t k z a\nreach z k*",
                  ["bad NoTie", "done", "done", "done", "z a"])


class Rules(RunCase):
    def test_done_taken_and_broken(self):
        self.behind(TOWNS, ["rule field r town high number"], ["done"])
        self.behind(TOWNS, ["rule field r town high number", "rule field r hut high text", "rule alone r town high"],
                    ["done", "taken", "taken"])
        self.behind(TOWNS, ["rule field r town high text", "rule field s hut high text", "rule ends t rail town town",
                            "rule ends u path town hut", "rule many v town rail forth 2 6", "rule many w town rail back 1 1",
                            "rule ringless x path", "rule ringless y rail^*"],
                    ["broken r place a", "broken s place c", "broken t tie bc", "broken u tie cc", "broken v place a",
                     "broken w place a", "broken x place c", "broken y place a"])
        self.behind(TOWNS, ["set c high 7", "rule alone r hut high", "rule alone s town high", "set a high 7",
                            "rule alone t town high"], ["done", "done", "done", "broken s place b", "done"])

    def test_a_rule_that_was_broken_is_not_there(self):
        self.behind(TOWNS, ["rule field r town high text", "set a high =x", "set b high =x", "rule field r town high text",
                            "rule field r town high text", "set b high 1"],
                    ["broken r place a", "done", "done", "done", "taken", "broken r place b"])

    def test_taken_goes_ahead_of_broken(self):
        self.behind(TOWNS, ["rule alone r town high", "rule field r hut high number"], ["done", "taken"])

    def test_each_sort_behind_a_dealing(self):
        self.behind(TOWNS, ["rule field r town high number", "clear b high", "set b high =x", "place z town"],
                    ["done"] + ["broken r place b"] * 2 + ["broken r place z"])
        self.behind(TOWNS, ["rule alone r town high", "set a high 7", "set b high 5", "place z town high 5", "place y town"],
                    ["done"] + ["broken r place b"] * 2 + ["broken r place z", "done"])
        self.behind(TOWNS, ["rule ends r path hut hut", "tie x path c a", "tie y path b c", "tie z path c c"],
                    ["done", "broken r tie x", "broken r tie y", "done"])
        self.behind(TOWNS, ["rule many r town rail forth 1 1", "tie x rail b a", "cut ab", "place z town", "tie y path a b"],
                    ["done", "broken r place b", "broken r place a", "broken r place z", "done"])
        self.behind(TOWNS, ["rule ringless r rail*", "tie x rail c a", "tie y rail b b", "tie z rail a c"],
                    ["done", "broken r place a", "broken r place b", "done"])

    def test_broken_by_one_made_in_that_very_dealing(self):
        self.behind(TOWNS, ["rule field r town high number", "begin", "place x town high 1", "place z town", "place y town", "end",
                            "rule ends s rail town town"], ["done", "broken r place z", "broken s tie bc"])
        self.behind(TOWNS, ["rule ends r path hut hut", "begin", "place z town", "tie new path z c", "tie more path c z", "end"],
                    ["done", "broken r tie new"])

    def test_names_as_they_would_be_behind_it(self):
        # The name a goes from the first place to another one within the dealing.
        self.told("place a p u 1\nrule field r p u number\nbegin\ndrop a\nplace b p u 1\nplace a p\nend\nreach a ()",
                  ["done", "done", "broken r place a", "a"])
        self.told("place a p\ntie t k a a\nrule ends r m q q\nbegin\ncut t\ntie t m a a\nend\ncount a k a",
                  ["done", "done", "done", "broken r tie t", "1"])

    def test_mended_behind_the_last_deed(self):
        self.behind(TOWNS, ["rule field r town high number", "begin", "place z town", "clear a high", "set a high 1",
                            "set z high 2", "end"], ["done", "done"])

    def test_the_first_rule_that_does_not_hold(self):
        rules = ["rule alone one p u", "rule field two p v number", "rule ringless three k*"]
        deeds = ["begin", "place a p u 1", "place b p u 1", "tie t k b b", "end"]
        self.told("\n".join(rules + deeds), ["done"] * 3 + ["broken one place b"])
        self.told("\n".join(rules[::-1] + deeds), ["done"] * 3 + ["broken three place b"])
        self.told("\n".join(rules[1:] + deeds), ["done"] * 2 + ["broken two place a"])

    def test_a_bad_deed_goes_ahead_of_a_broken_rule(self):
        self.told("rule field r p u number\nbegin\nplace a p\ncut t\nend", ["done", "bad NoTie"])

    def test_twenty_rules(self):
        names = ["r" + sign for sign in "abcdefghijklmnopqrst"]
        rows = [f"rule field {name} p u number" for name in names]
        self.told("\n".join(rows + ["rule alone rt p u", "place a p"]), ["done"] * 20 + ["taken", "broken ra place a"])


class Questions(RunCase):
    def test_count(self):
        self.behind(ROW, ["count c k,k b", "count a k b", "count b k a", "count a () a", "count a k* b", "count c k* b",
                          "count c k{0-2} c"], ["2", "2", "0", "1", "2", "2", "1"])

    def test_count_without_end(self):
        self.behind(ROW, ["count a k^* b", "tie aa k a a", "count a k* b", "count c k* a", "count b k* b", "count a k,k b"],
                    ["endless", "done", "endless", "endless", "1", "2"])

    def test_large_counts(self):
        rows = [f"place {name} p" for name in "abcdefg"]
        rows += [f"tie {one}{other}{n} k {one} {other}" for one, other in zip("abcdef", "bcdefg") for n in "abcdefghij"]
        self.told("\n".join(rows + ["count a k{6-6} g", "short a k* g", "plain a k* g", "plain a k* c"]),
                  ["done"] * 67 + [str(10 ** 6), "too many", "too many", "100"])

    def test_short(self):
        self.behind(ROW, ["short c k* b", "short a k* a", "short a k b", "short b k c", "short b k<,k< c", "short b k^* c"],
                    ["2 2", "0 1", "1 2", "none", "2 2", "2 2"])

    def test_short_of_too_many(self):
        rows = ["place a p", "place b p", "place c p"] + [f"tie {x}{y}b k {'a b' if x < 'n' else 'b c'}" for x in "abcdmnopqrstuv"
                                                         for y in "abc"]
        # Fifteen ties and twenty-seven make 405 walks; fifteen alone make as many.
        self.told("\n".join(rows + ["short a k* c", "short a k* b"]), ["done"] * 45 + ["too many", "1 15"])

    def test_plain(self):
        self.behind(ROW, ["plain c k^* b", "plain a ?^* a", "plain b k a", "plain c k* c", "plain c k,k< c", "tie bc k b c",
                          "plain c k^* b", "count c k^* b"], ["2", "1", "0", "1", "0", "done", "3", "endless"])

    def test_reach(self):
        self.behind(ROW, ["reach c k*", "reach a k*", "reach b k", "reach b k^*", "reach b ()", "reach b k<", "reach c k,k"],
                    ["c a b", "a b", "none", "c a b", "b", "a", "b"])
        self.behind(ROW, ["place zz p", "tie x k b zz", "place aa p", "tie y k b aa", "reach c k*", "reach b k"],
                    ["done"] * 4 + ["c a b zz aa", "zz aa"])

    def test_no_place(self):
        for row in ("count z k a", "count a k z", "count z k z", "short z k a", "short a k z", "plain z () z", "plain a k z",
                    "reach z k*", "count ab k a", "short z k* z"):
            self.behind(ROW, [row], ["bad NoPlace"])

    def test_ask_with_rows_and_counts(self):
        self.behind(ROW, ["ask", "spot x ? any", "spot y ? any", "bow x all y k", "go"], ["c a x 1 ; a b x 2"])
        self.behind(ROW, ["ask", "spot y ? any", "spot x ? any", "bow x all y k*", "unlike x y", "go"],
                    ["a c x 1 ; b c x 2 ; b a x 2"])
        self.behind(ROW, ["ask", "spot go p any", "go"], ["c x 1 ; a x 1 ; b x 1"])
        self.behind(ROW, ["ask", "spot x ? any", "bow x any x k", "go"], ["none"])
        self.behind(ROW, ["ask", "spot x ? any", "spot y ? any", "bow x short y k*", "bow x all y k", "go"], ["c a x 1 ; a b x 4"])

    def test_ask_by_tests_and_pairs(self):
        self.behind(TOWNS, ["ask", "spot x town over high 5", "go"], ["b x 1"])
        self.behind(TOWNS, ["ask", "spot x ? any", "spot y ? any", "less x high y high", "go"], ["a b x 1"])
        self.behind(TOWNS, ["ask", "spot x ? any", "spot y ? any", "same x high y high", "go"], ["a a x 1 ; b b x 1"])
        self.behind(TOWNS, ["ask", "spot x ? not has high", "spot y hut any", "go"], ["c c x 1"])

    def test_ask_endless_and_too_many(self):
        self.behind(ROW, ["ask", "spot x ? any", "bow x all x k^*", "go"], ["endless"])
        places = [f"place {one}{other} p" for one in "abc" for other in "abcde"]
        spots = ["ask", "spot x ? any", "spot y ? any"]
        self.told("\n".join(places + spots + ["go"] + spots + ["unlike x y", "go", "drop aa"] + spots + ["go"]),
                  ["done"] * 15 + ["too many", "too many", "done", run_of_all(places[1:])])
        self.told("\n".join(places + ["tie t k cc cc"] + spots + ["bow x all x k*", "go"]), ["done"] * 16 + ["endless"])

    def test_questions_change_nothing(self):
        rows = ["count c k* b", "reach c k*", "ask", "spot x ? any", "go"]
        answers = ["2", "c a b", "c x 1 ; a x 1 ; b x 1"]
        self.behind(ROW, rows * 3, answers * 3)


def run_of_all(places):
    """What is answered of all pairs of these places."""
    names = [row.split(" ")[1] for row in places]
    return " ; ".join(f"{one} {other} x 1" for one in names for other in names)


class Refused(RunCase):
    def test_a_sheet_that_can_not_be_read(self):
        for text, row in (("x", 0), ("place a p\nplace", 1), (f"{TOWNS}\ncount a rail", 6), (f"{TOWNS}\nbegin", 7),
                          ("ask\ngo", 1), ("ask\nspot x ? any\n", 3), ("drop a\ncut t\nend", 2), ("count a (a b", 0)):
            for _ in range(2):
                with self.assertRaises(BadRow) as caught:
                    run(text)
                self.assertIs(type(caught.exception), BadRow)
                self.assertTrue(same_kinds(caught.exception.row, row), (text, caught.exception.row))
                self.assertRaises(BadRow, read_sheet, text)


class Whole(RunCase):
    def test_each_run_begins_afresh(self):
        self.told("place a p", ["done"])
        self.told("place a p", ["done"])
        self.told("reach a ()", ["bad NoPlace"])
        first, second = run(TOWNS), run(TOWNS)
        self.assertIsNot(first, second)
        first.clear()
        self.assertEqual(second, ["done"] * 6)
        self.assertIsNot(run(""), run(""))

    def test_blanks_and_rows_without_words(self):
        self.told("\n  place   a  p \n\n   \n reach a   ()  \n", ["done", "a"])

    def test_by_chance(self):
        chance = random.Random(131)
        seen = {}
        for _ in range(500):
            orders = first_orders(chance) + random_orders(chance, chance.randrange(5, 40))
            wanted = Answerer().answers(orders)
            self.told(text_of(orders, chance), wanted)
            for answer in wanted:
                word = " ".join(answer.split(" ")[:2]) if answer.startswith("bad") else answer.split(" ")[0]
                seen[word] = seen.get(word, 0) + 1
        for word in ("done", "bad NoPlace", "bad NoTie", "bad Tied", "bad Taken", "broken", "taken", "endless", "none"):
            self.assertGreater(seen.get(word, 0), 25, (word, seen))

    def test_as_large_as_it_may_be(self):
        names = [first + second for first in "abcdefgh" for second in "vwxyz"]
        rows = ["begin"] + [f"place {name} p n {at}" for at, name in enumerate(names)] + ["end"]
        rows += [f"tie {one} k {one} {other}" for one, other in zip(names, names[1:] + names[:1])]
        rows += ["count av k{6-6} bw", "short av k* hz", "plain av k^* hz", "reach hz k", "count av k* av", "ask", "spot x ? any",
                 "spot y ? over n 37", "bow x short y k*", "unlike x y", "less y n x n", "go"]
        self.assertLessEqual(len(rows), 120)
        self.told("\n".join(rows), ["done"] * 41 + ["1", "39 1", "2", "av", "endless", "hz hy x 1"])


if __name__ == "__main__":
    unittest.main()
